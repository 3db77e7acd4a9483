/- Writing a block of a disk of one's own: the model's text. No statement is proved here. -/
import Derived.Test.YtpjkeikaonkohaaDkO
import Derived.Test.YtpjkeikaonkohaaDkP
namespace Go.Proofs.Ytpjkeikaonkohaa
open Go.RowKit
set_option linter.unusedVariables false
theorem OT.ned {W : World} {lo g : Nat} {v : Value} {ss : List ByteArray} {C : Array Value} {fr : Nat × Nat} (h : OT W lo v ss) (hg : W.heap[g]? = some (.cells C 30 fr)) : v.ownBlock ≠ some g := by
  rcases h.2 with ⟨rfl, _⟩ | ⟨g', cap, cur, rfl, _, hgg, _⟩
  · simp [Value.ownBlock]
  · intro he
    simp only [Value.ownBlock, Option.some.injEq] at he
    subst he
    rw [hgg] at hg
    simp at hg
theorem OU.ned {W : World} {lo g : Nat} {v : Value} {ps : List Pt} {C : Array Value} {fr : Nat × Nat} (h : OU W lo v ps) (hg : W.heap[g]? = some (.cells C 30 fr)) : v.ownBlock ≠ some g := by
  intro he
  obtain ⟨C', hC⟩ := OU.blk h he
  rw [hC] at hg
  simp at hg
/-- append of one pair that was just laid into a block of its own. -/
theorem wpList_pushU {ops : Array Oper} {rest : List Oper} {o : Oper} {a : Act} {Q : Exit → Act → World → Prop} {W : World} {lo B : Nat} {v : Value} {ps : List Pt} {k : Int} {x : ByteArray} (hgd : o.guard = none) (s y : Operand)
    (ho : o.op = .call { callee := .builtin .append, args := #[s, y], argTypes := #[28, 28] }) (hs : a.eval s = v) (hx : a.eval y = .slice (some ⟨B, 0, none⟩) 1 1) (hB : W.heap.size = B)
    (hown : OU W lo v ps) (hlo : lo ≤ W.heap.size) (hlen : ps.length ≤ 1048576)
    (h : ∀ g cap w', OU w' lo (.slice (some ⟨g, 0, none⟩) (ps.length + 1) cap) (ps ++ [(k, x)]) → (W.alloc (.cells #[.int .i64 k, .string x] 77)).grownBy w' v.ownBlock → (v.ownBlock = some g ∨ g = W.heap.size + 1) → g < w'.heap.size →
      wpList Try.prog ops Q rest (a.put o.dst (.slice (some ⟨g, 0, none⟩) (ps.length + 1) cap)) w') : wpList Try.prog ops Q (o :: rest) a (W.alloc (.cells #[.int .i64 k, .string x] 77)) := by
  refine wpList_plain hgd fun _ hK => ?_
  obtain ⟨i0, hi, hz0, hz1, hz2⟩ := info_parts infoUz
  subst hB
  refine wp_append_lies _ s y 28 ho lo 77 i0 (.agg #[.int .i64 0, .string ⟨#[]⟩]) 2 24 Try.underlying28 hi hz0 hz1 hz2 rfl (by decide) v ps.length (flatP ps) hs (own_bel hown ((Below.refl _ W).alloc (Nat.le_refl _) _))
    ⟨W.heap.size, 0, none⟩ 1 1 [.int .i64 k, .string x] hx rfl (fun j u hu => ?_) (fun u hu => ?_) (by decide) (by unfold maxLen; omega) (by omega) (by simp; omega) (W.heap.size + 1) (by simp) (fun g cap w' h1 h2 h3 h4 => hK _ _ (h g cap w' ?_ h2 h3 h4))
  · rcases j with _ | _ | j
    · obtain rfl := Option.some.inj hu
      rw [add_at, cell_of_row _ _ _ _ _ _ (heap_alloc_new W _)]; rfl
    · obtain rfl := Option.some.inj hu
      rw [add_at, cell_of_row _ _ _ _ _ _ (heap_alloc_new W _)]; rfl
    · simp at hu
  · simp only [List.mem_cons, List.not_mem_nil, or_false] at hu
    rcases hu with rfl | rfl <;> rfl
  · unfold OU; rw [List.length_append, flatP_append]; exact h1
def wrC (ps : List Pt) (fz : Int) (off : Bool) : Int := if pwY fz off then (if 600 ≤ ps.length then 5 else 0) else 13
def wrP (ps : List Pt) (fz : Int) (off : Bool) (k : Int) (x : ByteArray) : List Pt := if wrC ps fz off = 0 then ps ++ [(k, x)] else ps
def wrF (ps : List Pt) (fz : Int) (off : Bool) : Int := if wrC ps fz off = 0 then pwF fz off else fz
def wrO (ps : List Pt) (fz : Int) (off : Bool) : Bool := if wrC ps fz off = 0 then false else pwO fz off
/-- The disk in block g after a write. -/
def Wrt (w' w : World) (lo g : Nat) (v1 : Value) (ss : List ByteArray) (ps : List Pt) (fz : Int) (off : Bool) : Prop := ∃ v2, DB w' g v1 v2 fz off ∧ OT w' lo v1 ss ∧ OU w' lo v2 ps ∧ Below lo w w'
theorem Pow.wrt {w w' : World} {lo g : Nat} {v1 v2 : Value} {ss : List ByteArray} {ps : List Pt} {fz0 fz : Int} {off0 off : Bool} (hd : DB w g v1 v2 fz0 off0) (h : Pow w g v1 v2 fz off w') (h1 : OT w lo v1 ss) (h2 : OU w lo v2 ps) (hg : lo ≤ g) : Wrt w' w lo g v1 ss ps fz off :=
  ⟨v2, h.1, own_same h1 fun k hk => h.2.2.2 k (fun e => h1.ned hd (e ▸ hk)), own_same h2 fun k hk => h.2.2.2 k (fun e => h2.ned hd (e ▸ hk)), h.2.2.1.mono hg⟩
set_option maxHeartbeats 1000000 in
set_option maxRecDepth 100000 in
theorem l09Write_any {w : World} {lo g : Nat} {v1 v2 : Value} {ss : List ByteArray} {ps : List Pt} {fz k : Int} {off : Bool} {x : ByteArray} (hd : DB w g v1 v2 fz off) (h1 : OT w lo v1 ss) (h2 : OU w lo v2 ps) (hg : lo ≤ g) (hl : ps.length ≤ 1048576) (hf : InI fz) :
    Calls Try.prog 83 #[.pointer (some ⟨g, 0, none⟩), .int .i64 k, .string x] w (fun e w' => e = .returned (.int .i64 (wrC ps fz off)) ∧ Wrt w' w lo g v1 ss (wrP ps fz off k x) (wrF ps fz off) (wrO ps fz off)) := by
  obtain ⟨E2, d2, rfl⟩ := h2.ex
  have Hd := Lib.hid hd; have H1 := Lib.hid h1; have H2 := Lib.hid h2
  have q1 := hd.c1; have q2 := hd.c2; have q3 := hd.c3; have f2 := hd.f 2; have f3 := hd.f 3
  have hlt := hd.lt
  clear hd h1 h2
  cases hy : pwY fz off
  · have e1 : wrC ps fz off = 13 := by simp [wrC, hy]
    have e2 : wrP ps fz off k x = ps := by simp [wrP, e1]
    have e3 : wrF ps fz off = fz := by simp [wrF, e1]
    have e4 : wrO ps fz off = true := by simp [wrO, e1, pwO, hy]
    rw [e1, e2, e3, e4]
    have Hp : Hid (Wrt (w.setCell ⟨g, 3, none⟩ (.bool true)) w lo g v1 ss ps fz true) := Lib.hid (Pow.wrt Hd.out (pow_set Hd.out 3 _ rfl) H1.out H2.out hg)
    clear e1 e2 e3 e4
    cases off
    · have hz : fz = 0 := by simpa [pwY] using hy
      have e1 : (fz == 0) = true := by simpa using hz
      clear hz hy
      go_enter Try.func83, Try.ntmps83
      go_wp2_with fail
      go_ret
      exact ⟨rfl, Hp.out⟩
    · clear hy
      go_enter Try.func83, Try.ntmps83
      go_wp2_with fail
      go_ret
      exact ⟨rfl, Hp.out⟩
  · have ho : off = false := by cases off <;> simp_all [pwY]
    subst ho
    have hz : ¬ fz = 0 := by simpa [pwY] using hy
    have z1 : (fz == 0) = false := beq_eq_false_iff_ne.2 hz
    clear hz
    by_cases hfull : 600 ≤ ps.length
    · have e1 : wrC ps fz false = 5 := by simp [wrC, hy, hfull]
      have e2 : wrP ps fz false k x = ps := by simp [wrP, e1]
      have e3 : wrF ps fz false = fz := by simp [wrF, e1]
      have e4 : wrO ps fz false = false := by simp [wrO, e1, pwO, hy]
      rw [e1, e2, e3, e4]
      have Hp : Hid (Wrt w w lo g v1 ss ps fz false) := Lib.hid ⟨_, Hd.out, H1.out, H2.out, Below.refl _ _⟩
      have d1 : decide ((ps.length : Int) ≥ 600) = true := decide_eq_true (by omega)
      clear e1 e2 e3 e4 hy
      go_enter Try.func83, Try.ntmps83
      go_wp2_with fail
      go_ret
      exact ⟨rfl, Hp.out⟩
    · have e1 : wrC ps fz false = 0 := by simp [wrC, hy, hfull]
      have e2 : wrP ps fz false k x = ps ++ [(k, x)] := by simp [wrP, e1]
      have e3 : wrF ps fz false = pwF fz false := by simp [wrF, e1]
      have e4 : wrO ps fz false = false := by simp [wrO, e1]
      have e5 : pwO fz false = false := by simp [pwO, hy]
      rw [e1, e2, e3, e4]
      have d1 : decide ((ps.length : Int) ≥ 600) = false := decide_eq_false (by omega)
      have HP := Lib.hid (l09Power_any (w := w) (v1 := v1) Hd.out hf)
      rw [hy, e5] at HP
      clear e1 e2 e3 e4 e5 hy
      generalize pwF fz false = fz' at *
      go_enter Try.func83, Try.ntmps83
      go_wp2_with fail
      refine HP.out.mono ?_
      rintro e w1 ⟨rfl, hp⟩
      clear q1 q2 q3 f2 f3
      have Hw := Lib.hid (Pow.wrt Hd.out hp H1.out H2.out hg)
      have D1 := Lib.hid hp.1
      have O1 : Hid (OT w1 lo v1 ss) := Lib.hid (own_same H1.out fun k hk => hp.2.2.2 k (fun e => H1.out.ned Hd.out (e ▸ hk)))
      have O2 : Hid (OU w1 lo (.slice E2 ps.length d2) ps) := Lib.hid (own_same H2.out fun k hk => hp.2.2.2 k (fun e => H2.out.ned Hd.out (e ▸ hk)))
      have B1 : Hid (Below lo w w1) := Lib.hid (hp.2.2.1.mono hg)
      have Z1 : Hid (lo ≤ w1.heap.size) := Lib.hid (by rw [hp.2.1]; omega)
      clear hp Hw
      have q1 := D1.out.c1
      go_wp2_with (at_builtin; refine wpList_pushU (W := w1) (v := .slice E2 ps.length d2) (lo := lo) (ps := ps) (k := k) (x := x) rfl (.tmp 33) (.tmp 37) rfl rfl rfl rfl O2.out Z1.out hl ?_; intro h cap w2 ow2 gr2 at2 lt2; clear q1; have D2 := Lib.hid (show DB w2 g v1 (.slice E2 ps.length d2) fz' false from (gr2.block g (by have := D1.out.lt; simp; omega) (fun e => O2.out.ned D1.out e.symm)).trans (((Below.refl _ w1).alloc (Nat.le_refl _) _ |>.block g D1.out.lt).trans D1.out)); have q1 := D2.out.c1; have f1 := D2.out.f 1)
      go_ret
      have V1 : OT w2 lo v1 ss := World.ownsRow.kept (own_bel O1.out ((Below.refl _ w1).alloc (Nat.le_refl _) _)) gr2 (by
        cases hv : v1.ownBlock with
        | none => exact .inl rfl
        | some q => exact .inr (fun e => OT.ap O1.out O2.out q hv e.symm))
      refine ⟨rfl, _, ?_, own_same V1 fun q hq => heap_setCell_other _ ⟨g, 1, none⟩ q _ (fun e => V1.ned D2.out (by rw [hq]; exact congrArg some (by simpa using e))), own_same ow2 fun q hq => heap_setCell_other _ ⟨g, 1, none⟩ q _ (fun e => OU.ned ow2 D2.out (by rw [hq]; exact congrArg some (by simpa using e))), ?_⟩
      · unfold DB; rw [heap_setCell_same _ _ _ _ _ _ D2.out]; rfl
      · exact ((B1.out.alloc Z1.out _).grown gr2 (by have := Z1.out; simp; omega) (fun k hk => (own_wi O2.out k hk).1)).setCell (p := ⟨g, 1, none⟩) hg _
end Go.Proofs.Ytpjkeikaonkohaa
