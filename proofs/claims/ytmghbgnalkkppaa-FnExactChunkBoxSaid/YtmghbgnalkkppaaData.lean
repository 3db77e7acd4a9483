/- Go data as trees, and what it is for a value in memory to read as one: words and lemmas for all laws. No statement is proved here. -/
import Derived.Test.YtmghbgnalkkppaaRows
import Derived.WalkKit
import Derived.WalkSpells
import Derived.Lib.Hide
import Derived.Below
import Derived.ChangeArms
import Derived.Deep.Slices
namespace Go.Proofs.Ytmghbgnalkkppaa
open Go.RowKit Go.ChangeShapes Go.WideShapes
set_option linter.unusedVariables false

/-- A cell's content as a tree: a number, a truth value, a string, a slice with the cells of each element. -/
inductive D where
  | i (n : Int)
  | b (x : Bool)
  | s (x : ByteArray)
  | l (rows : List (List D))
deriving Inhabited
/-- The kinds of elements that slices have. -/
inductive RT where
  | str | int | mem | typ | pnt | bx | put | pag | msg | chu | fil
deriving DecidableEq
/-- What a cell is: a number, a truth value, a string, a slice. -/
inductive Sh where
  | int | bool | str
  | sl (r : RT)
deriving DecidableEq
def typSh : List Sh := [.int, .int, .bool, .bool, .sl .str, .sl .int, .sl .mem, .sl .typ, .int]
def tab : RT → List Sh
  | .str => [.str]
  | .int => [.int]
  | .mem => [.str, .int, .int, .int, .bool, .bool, .sl .str, .sl .int, .sl .mem, .sl .typ, .int]
  | .typ => typSh
  | .pnt => [.sl .int]
  | .bx => [.sl .int, .sl .int]
  | .put => [.int, .str]
  | .pag => [.int, .str]
  | .msg => [.int, .int, .str]
  | .chu => [.int, .int, .int, .int]
  | .fil => [.int, .int, .bool]
def InI (n : Int) : Prop := -9223372036854775808 ≤ n ∧ n < 9223372036854775808
/-- Cell by cell. -/
def RdsOf (R : Sh → Value → D → Prop) : List Sh → List Value → List D → Prop
  | [], [], [] => True
  | s :: ss, v :: vs, d :: ds => R s v d ∧ RdsOf R ss vs ds
  | _, _, _ => False
/-- A value that reads as a tree, by slices below block B. The number bounds the slices within slices. -/
def Rd : Nat → Nat → World → Sh → Value → D → Prop
  | _, _, _, .int, v, .i n => v = .int .i64 n ∧ InI n
  | _, _, _, .bool, v, .b x => v = .bool x
  | _, _, _, .str, v, .s x => v = .string x ∧ x.size ≤ maxLen
  | f + 1, B, w, .sl r, v, .l rows => ∃ (A : Option Addr) (cap : Nat), v = .slice A rows.length cap ∧ rows.length ≤ cap ∧ cap ≤ maxLen ∧
      ∀ (i : Nat) (row : List D), rows[i]? = some row → ∃ (b o : Nat) (cs : List Value), A = some ⟨b, o, none⟩ ∧ b < B ∧ (∀ (j : Nat) (u : Value), cs[j]? = some u → w.cell? ⟨b, o + i * (tab r).length + j, none⟩ = some u) ∧
        RdsOf (Rd f B w) (tab r) cs row
  | _, _, _, _, _, _ => False
def Rds (f B : Nat) (w : World) : List Sh → List Value → List D → Prop := RdsOf (Rd f B w)

theorem RdsOf.mono {R R' : Sh → Value → D → Prop} (h : ∀ s v d, R s v d → R' s v d) : ∀ {ss : List Sh} {vs : List Value} {ds : List D}, RdsOf R ss vs ds → RdsOf R' ss vs ds
  | [], [], [], _ => trivial
  | s :: ss, v :: vs, d :: ds, hh => ⟨h _ _ _ hh.1, RdsOf.mono h hh.2⟩
theorem RdsOf.length {R : Sh → Value → D → Prop} : ∀ {ss : List Sh} {vs : List Value} {ds : List D}, RdsOf R ss vs ds → vs.length = ss.length ∧ ds.length = ss.length
  | [], [], [], _ => ⟨rfl, rfl⟩
  | s :: ss, v :: vs, d :: ds, hh => by have := RdsOf.length hh.2; simp; omega
theorem RdsOf.cons {R : Sh → Value → D → Prop} {q : Sh} {ss : List Sh} {vs : List Value} {ds : List D} (h : RdsOf R (q :: ss) vs ds) : ∃ v d vs' ds', vs = v :: vs' ∧ ds = d :: ds' ∧ R q v d ∧ RdsOf R ss vs' ds' := by
  cases vs <;> cases ds <;> first | exact False.elim h | exact ⟨_, _, _, _, rfl, rfl, h.1, h.2⟩
theorem RdsOf.nil {R : Sh → Value → D → Prop} {vs : List Value} {ds : List D} (h : RdsOf R [] vs ds) : vs = [] ∧ ds = [] := by
  cases vs <;> cases ds <;> first | exact False.elim h | exact ⟨rfl, rfl⟩
theorem RdsOf.append {R : Sh → Value → D → Prop} : ∀ {ss ss' : List Sh} {vs vs' : List Value} {ds ds' : List D}, RdsOf R ss vs ds → RdsOf R ss' vs' ds' → RdsOf R (ss ++ ss') (vs ++ vs') (ds ++ ds')
  | [], _, [], _, [], _, _, h' => h'
  | s :: ss, _, v :: vs, _, d :: ds, _, hh, h' => ⟨hh.1, RdsOf.append hh.2 h'⟩
/-- More slices within slices, a higher bound, a world that is the same below it. -/
theorem Rd.up : ∀ {f f' B B' : Nat} {w w' : World} (s : Sh) (v : Value) (d : D), f ≤ f' → B ≤ B' → Below B w w' → Rd f B w s v d → Rd f' B' w' s v d
  | f, f', B, B', w, w', .int, v, .i n, _, _, _, h => by cases f <;> cases f' <;> exact h
  | f, f', B, B', w, w', .bool, v, .b n, _, _, _, h => by cases f <;> cases f' <;> exact h
  | f, f', B, B', w, w', .str, v, .s n, _, _, _, h => by cases f <;> cases f' <;> exact h
  | f + 1, f' + 1, B, B', w, w', .sl r, v, .l rows, hf, hB, hw, ⟨A, cap, hv, h1, h2, h3⟩ => by
    refine ⟨A, cap, hv, h1, h2, fun i row hr => ?_⟩
    obtain ⟨b, o, cs, hA, hb, hc, hd⟩ := h3 i row hr
    refine ⟨b, o, cs, hA, by omega, fun j u hu => ?_, hd.mono fun s v d => Rd.up s v d (by omega) hB hw⟩
    rw [hw.cell hb]
    exact hc j u hu
  | f + 1, 0, _, _, _, _, .sl r, _, .l rows, hf, _, _, _ => absurd hf (by omega)
  | 0, _, _, _, _, _, .sl r, _, .l rows, _, _, _, h => False.elim (by unfold Rd at h; exact h)
  | f, _, _, _, _, _, .int, _, .b _, _, _, _, h => False.elim (by cases f <;> exact h)
  | f, _, _, _, _, _, .int, _, .s _, _, _, _, h => False.elim (by cases f <;> exact h)
  | f, _, _, _, _, _, .int, _, .l _, _, _, _, h => False.elim (by cases f <;> exact h)
  | f, _, _, _, _, _, .bool, _, .i _, _, _, _, h => False.elim (by cases f <;> exact h)
  | f, _, _, _, _, _, .bool, _, .s _, _, _, _, h => False.elim (by cases f <;> exact h)
  | f, _, _, _, _, _, .bool, _, .l _, _, _, _, h => False.elim (by cases f <;> exact h)
  | f, _, _, _, _, _, .str, _, .i _, _, _, _, h => False.elim (by cases f <;> exact h)
  | f, _, _, _, _, _, .str, _, .b _, _, _, _, h => False.elim (by cases f <;> exact h)
  | f, _, _, _, _, _, .str, _, .l _, _, _, _, h => False.elim (by cases f <;> exact h)
  | f, _, _, _, _, _, .sl _, _, .i _, _, _, _, h => False.elim (by cases f <;> exact h)
  | f, _, _, _, _, _, .sl _, _, .b _, _, _, _, h => False.elim (by cases f <;> exact h)
  | f, _, _, _, _, _, .sl _, _, .s _, _, _, _, h => False.elim (by cases f <;> exact h)
theorem Rds.up {f f' B B' : Nat} {w w' : World} {ss : List Sh} {vs : List Value} {ds : List D} (h : Rds f B w ss vs ds) (hf : f ≤ f') (hB : B ≤ B') (hw : Below B w w') : Rds f' B' w' ss vs ds :=
  RdsOf.mono (fun s v d => Rd.up s v d hf hB hw) h
theorem Rd.int {f B : Nat} {w : World} {v : Value} {d : D} (h : Rd f B w .int v d) : ∃ n, d = .i n ∧ v = .int .i64 n ∧ InI n := by
  cases d <;> cases f <;> first | exact False.elim h | exact ⟨_, rfl, h⟩
theorem Rd.bool {f B : Nat} {w : World} {v : Value} {d : D} (h : Rd f B w .bool v d) : ∃ x, d = .b x ∧ v = .bool x := by
  cases d <;> cases f <;> first | exact False.elim h | exact ⟨_, rfl, h⟩
theorem Rd.str {f B : Nat} {w : World} {v : Value} {d : D} (h : Rd f B w .str v d) : ∃ x, d = .s x ∧ v = .string x ∧ x.size ≤ maxLen := by
  cases d <;> cases f <;> first | exact False.elim h | exact ⟨_, rfl, h⟩
theorem Rd.sl {f B : Nat} {w : World} {r : RT} {v : Value} {d : D} (h : Rd f B w (.sl r) v d) : ∃ (f' : Nat) (rows : List (List D)) (A : Option Addr) (cap : Nat), f = f' + 1 ∧ d = .l rows ∧ v = .slice A rows.length cap ∧ rows.length ≤ cap ∧ cap ≤ maxLen ∧
      ∀ (i : Nat) (row : List D), rows[i]? = some row → ∃ (b o : Nat) (cs : List Value), A = some ⟨b, o, none⟩ ∧ b < B ∧ (∀ (j : Nat) (u : Value), cs[j]? = some u → w.cell? ⟨b, o + i * (tab r).length + j, none⟩ = some u) ∧
        Rds f' B w (tab r) cs row := by
  cases d <;> cases f <;> first | exact False.elim h | (obtain ⟨A, cap, h⟩ := h; exact ⟨_, _, A, cap, rfl, rfl, h⟩)
theorem add_at (b o j : Nat) : (⟨b, o, none⟩ : Addr).add j = ⟨b, o + j, none⟩ := by
  unfold Addr.add
  by_cases h : j = 0 <;> simp [h]
theorem spot_none {w : World} {a : Addr} {u : Value} (h : w.cell? a = some u) : a.spot = none ∧ a.block < w.heap.size := by
  unfold World.cell? at h
  split at h
  · split at h
    · cases h
    · rename_i hb hs
      refine ⟨by simpa using hs, ?_⟩
      rcases Nat.lt_or_ge a.block w.heap.size with hl | hl
      · exact hl
      · rw [Array.getElem?_eq_none hl] at hb; cases hb
  · cases h

/-- Does a type of the program lie in memory as these cells? 'tm': the program's types of the elements of slices. -/
def layOk (P : Program) (tm : RT → Option TypeId) : Nat → TypeId → List Sh → Bool
  | 0, _, _ => false
  | f + 1, t, shs =>
    match P.underlying t with
    | some (.int .i64) => shs == [.int]
    | some .bool => shs == [.bool]
    | some .string => shs == [.str]
    | some (.slice e) => match shs with
      | [.sl r] => tm r == some e
      | _ => false
    | some (.struct fs) => P.cellsOf t == shs.length && layOk.fieldsOk (layOk P tm f) P.cellsOf 0 fs.toList shs
    | _ => false
where fieldsOk (g : TypeId → List Sh → Bool) (C : TypeId → Nat) : Nat → List Field → List Sh → Bool
  | _, [], shs => shs.isEmpty
  | p, fl :: rest, shs => fl.offset == p && decide (C fl.type ≤ shs.length) && g fl.type (shs.take (C fl.type)) && fieldsOk g C (p + C fl.type) rest (shs.drop (C fl.type))
/-- The program's types of the elements of slices lie as they should. -/
def LayTab (P : Program) (tm : RT → Option TypeId) : Prop := ∀ r e, tm r = some e → P.cellsOf e = (tab r).length ∧ layOk P tm 8 e (tab r) = true
theorem tab_pos (r : RT) : 0 < (tab r).length := by cases r <;> decide

section
variable {H : Type} {enc : TypeId × Value → H} {P : Program} {w : World} {base : Nat} {spare : Nat → Bool} {held : Bool} {tm : RT → Option TypeId}
theorem open_fields {n m : Nat} (C : TypeId → Nat) (g : TypeId → List Sh → Bool)
    (ih : ∀ t shs cs x, g t shs = true → DataW.trod enc P w base spare held n t cs = some x → ∃ ds, Rds m w.heap.size w shs cs ds) :
    ∀ (fs : List Field) (p : Nat) (shs : List Sh) (cs : List Value), layOk.fieldsOk g C p fs shs = true → (cs.drop p).length = shs.length →
      (∀ fl ∈ fs, ∃ y, DataW.trod enc P w base spare held n fl.type ((cs.drop fl.offset).take (C fl.type)) = some y) → ∃ ds, Rds m w.heap.size w shs (cs.drop p) ds
  | [], p, shs, cs, hf, hl, hy => by
    have hs : shs = [] := by simpa [layOk.fieldsOk] using hf
    subst hs
    have : cs.drop p = [] := List.eq_nil_of_length_eq_zero hl
    rw [this]
    exact ⟨[], trivial⟩
  | fl :: rest, p, shs, cs, hf, hl, hy => by
    simp only [layOk.fieldsOk, Bool.and_eq_true, beq_iff_eq, decide_eq_true_eq] at hf
    obtain ⟨⟨⟨h1, h2⟩, h3⟩, h4⟩ := hf
    obtain ⟨y, hy1⟩ := hy fl (by simp)
    rw [h1] at hy1
    obtain ⟨ds1, hd1⟩ := ih _ _ _ _ h3 hy1
    obtain ⟨ds2, hd2⟩ := open_fields C g ih rest (p + C fl.type) (shs.drop (C fl.type)) cs h4 (by
      rw [← List.drop_drop, List.length_drop, hl, List.length_drop]) (fun f' hf' => hy f' (by simp [hf']))
    refine ⟨ds1 ++ ds2, ?_⟩
    have := RdsOf.append hd1 hd2
    rw [List.take_append_drop, ← List.drop_drop, List.take_append_drop] at this
    exact this
theorem open_data (hT : LayTab P tm) : ∀ (fuel k : Nat) (t : TypeId) (shs : List Sh) (cs : List Value) (x : DataW H × List MemPlace), layOk P tm k t shs = true → DataW.trod enc P w base spare held fuel t cs = some x →
    ∃ ds, Rds fuel w.heap.size w shs cs ds
  | 0, _, _, _, _, _, _, h => by simp [DataW.trod] at h
  | fuel + 1, 0, _, _, _, _, hl, _ => by simp [layOk] at hl
  | fuel + 1, k + 1, t, shs, cs, x, hl, h => by
    unfold layOk at hl
    split at hl
    · rename_i hu
      obtain rfl : shs = [.int] := by simpa using hl
      obtain ⟨n', rfl, _, hw⟩ := DataW.trod_int hu h
      exact ⟨[.i n'], ⟨rfl, by unfold InI; simp [Lit.wf, IntKind.min, IntKind.max, IntKind.signed, IntKind.bits] at hw; omega⟩, trivial⟩
    · rename_i hu
      obtain rfl : shs = [.bool] := by simpa using hl
      obtain ⟨x', rfl, _⟩ := DataW.trod_bool hu h
      exact ⟨[.b x'], rfl, trivial⟩
    · rename_i hu
      obtain rfl : shs = [.str] := by simpa using hl
      obtain ⟨x', rfl, _, hx⟩ := DataW.trod_string hu h
      exact ⟨[.s x'], ⟨rfl, hx⟩, trivial⟩
    · rename_i e hu
      split at hl
      · rename_i r
        have hr : tm r = some e := by simpa using hl
        obtain ⟨hC, hL⟩ := hT r e hr
        have hpos := tab_pos r
        rcases DataW.trod_slice hu h with ⟨rfl, _⟩ | ⟨a, len, cap, elems, rest, n, hn, rfl, _, hb, hlc, hm, hlen, hel, _, _⟩
        · exact ⟨[.l []], ⟨none, 0, rfl, Nat.le_refl _, by decide, fun i row hr => by simp at hr⟩, trivial⟩
        · obtain rfl : fuel = n := by omega
          have each : ∀ i, i < len → ∃ row : List D, ∃ (b o : Nat) (cs : List Value), some a = some ⟨b, o, none⟩ ∧ b < w.heap.size ∧ (∀ (j : Nat) (u : Value), cs[j]? = some u → w.cell? ⟨b, o + i * (tab r).length + j, none⟩ = some u) ∧ Rds fuel w.heap.size w (tab r) cs row := by
            intro i hi
            have h1 := hel i hi
            rw [List.getElem?_eq_getElem (by omega)] at h1
            obtain ⟨cs', hc, ht⟩ := Option.bind_eq_some_iff.1 h1
            obtain ⟨row, hrow⟩ := open_data hT fuel 8 e (tab r) cs' _ hL ht
            obtain ⟨_, hcl, hat⟩ := World.cells?_some hc
            have h00 := hel 0 (by omega)
            rw [List.getElem?_eq_getElem (by omega)] at h00
            obtain ⟨cs0, hc0, _⟩ := Option.bind_eq_some_iff.1 h00
            obtain ⟨_, hcl0, hat0⟩ := World.cells?_some hc0
            have h0 := hat0 0 (by omega)
            rw [Nat.zero_mul, List.getElem?_eq_getElem (by omega)] at h0
            have hsp := spot_none h0
            obtain ⟨b, o, sp⟩ := a
            rw [show ((⟨b, o, sp⟩ : Addr).add 0).add 0 = ⟨b, o, sp⟩ from rfl] at hsp
            obtain ⟨hsp1, hsp2⟩ := hsp
            change sp = none at hsp1
            change b < _ at hsp2
            subst hsp1
            refine ⟨row, b, o, cs', rfl, hsp2, fun j u hj => ?_, hrow⟩
            have hjl : j < cs'.length := by
              rcases Nat.lt_or_ge j cs'.length with hl | hl
              · exact hl
              · rw [List.getElem?_eq_none hl] at hj; cases hj
            have := hat j (by omega)
            rw [add_at, add_at, hC] at this
            rw [this, hj]
          obtain ⟨F, hF⟩ := Go.Deep.choose_lt (α := List D) each
          refine ⟨[.l ((List.range len).map F)], ⟨some a, cap, by simp, by simpa using hlc, hm, fun i row hr => ?_⟩, trivial⟩
          rw [List.getElem?_map] at hr
          obtain ⟨i', hi', rfl⟩ := Option.map_eq_some_iff.1 hr
          have hii : i < len ∧ i' = i := by
            have hl' : i < (List.range len).length := by
              rcases Nat.lt_or_ge i (List.range len).length with hl | hl
              · exact hl
              · rw [List.getElem?_eq_none hl] at hi'; cases hi'
            rw [List.length_range] at hl'
            rw [List.getElem?_eq_getElem (by simpa using hl'), List.getElem_range] at hi'
            exact ⟨hl', (Option.some.inj hi').symm⟩
          obtain ⟨hil, rfl⟩ := hii
          exact hF i' hil
      · cases hl
    · rename_i fs hu
      simp only [Bool.and_eq_true, beq_iff_eq] at hl
      obtain ⟨xs, n, hn, _, hlen, hxl, hf⟩ := DataW.trod_struct hu h
      obtain rfl : fuel = n := by omega
      obtain ⟨ds, hds⟩ := open_fields (n := fuel) (m := fuel) P.cellsOf (layOk P tm k) (fun t shs cs x h1 h2 => open_data hT fuel k t shs cs x h1 h2) fs.toList 0 shs cs hl.2 (by simp; omega) (fun fl hfl => by
        obtain ⟨i, hi, he⟩ := List.getElem_of_mem hfl
        have hi' : i < fs.size := by simpa using hi
        have := hf i fl (by rw [Array.getElem?_eq_getElem hi']; simpa using he)
        rw [List.getElem?_eq_getElem (by omega)] at this
        exact ⟨_, this⟩)
      exact ⟨ds, Rds.up hds (by omega) (Nat.le_refl _) (Below.refl _ _)⟩
    · cases hl
end
/-- No string and no slice of the tree is longer than 2^20. -/
def Sm : Nat → D → Prop
  | _, .i _ => True
  | _, .b _ => True
  | _, .s x => x.size ≤ 1048576
  | f + 1, .l rows => rows.length ≤ 1048576 ∧ ∀ row ∈ rows, ∀ d ∈ row, Sm f d
  | 0, .l _ => False
theorem list_of {α : Type} {p : Nat → α → Prop} : ∀ (n : Nat), (∀ i, i < n → ∃ x, p i x) → ∃ xs : List α, xs.length = n ∧ ∀ i (h : i < xs.length), p i xs[i]
  | 0, _ => ⟨[], rfl, fun i h => by simp at h⟩
  | n + 1, h => by
    obtain ⟨xs, hl, hp⟩ := list_of n (fun i hi => h i (by omega))
    obtain ⟨x, hx⟩ := h n (by omega)
    refine ⟨xs ++ [x], by simp [hl], fun i hi => ?_⟩
    rw [List.length_append, List.length_singleton] at hi
    rcases Nat.lt_or_ge i n with hlt | hge
    · rw [List.getElem_append_left (by omega)]; exact hp i (by omega)
    · obtain rfl : i = n := by omega
      rw [List.getElem_append_right (by omega)]
      simpa [hl] using hx
/-- A slice of strings. -/
theorem Rd.strs {f B : Nat} {w : World} {v : Value} {d : D} (h : Rd f B w (.sl .str) v d) : ∃ (f' : Nat) (xs : List ByteArray) (A : Option Addr) (cap : Nat), f = f' + 1 ∧ d = .l (xs.map fun x => [.s x]) ∧ v = .slice A xs.length cap ∧ xs.length ≤ cap ∧ cap ≤ maxLen ∧
    ∀ (i : Nat) (hi : i < xs.length), ∃ b o : Nat, A = some ⟨b, o, none⟩ ∧ b < B ∧ w.cell? ⟨b, o + i, none⟩ = some (.string xs[i]) ∧ xs[i].size ≤ maxLen := by
  obtain ⟨f', rows, A, cap, rfl, rfl, rfl, h1, h2, h3⟩ := Rd.sl h
  have each : ∀ i, i < rows.length → ∃ x : ByteArray, rows[i]? = some [.s x] ∧ ∃ b o : Nat, A = some ⟨b, o, none⟩ ∧ b < B ∧ w.cell? ⟨b, o + i, none⟩ = some (.string x) ∧ x.size ≤ maxLen := by
    intro i hi
    obtain ⟨b, o, cs, hA, hb, hc, hd⟩ := h3 i rows[i] (List.getElem?_eq_getElem hi)
    rw [List.getElem?_eq_getElem hi]
    generalize rows[i] = row at *
    obtain ⟨c, d, vs', ds', rfl, rfl, hd1, hn⟩ := RdsOf.cons hd
    obtain ⟨rfl, rfl⟩ := RdsOf.nil hn
    obtain ⟨x, rfl, rfl, hx⟩ := Rd.str hd1
    refine ⟨x, rfl, b, o, hA, hb, ?_, hx⟩
    · have := hc 0 _ rfl
      rwa [show (tab .str).length = 1 from rfl, Nat.mul_one, Nat.add_zero] at this
  obtain ⟨xs, hl, hx⟩ := list_of rows.length each
  refine ⟨f', xs, A, cap, rfl, ?_, by rw [hl], by omega, h2, fun i hi => (hx i hi).2⟩
  congr 1
  apply List.ext_getElem (by simp [hl])
  intro i h1 h2
  have := (hx i (by omega)).1
  rw [List.getElem?_eq_getElem h1] at this
  simpa using Option.some.inj this
/-- A slice of numbers. -/
theorem Rd.ints {f B : Nat} {w : World} {v : Value} {d : D} (h : Rd f B w (.sl .int) v d) : ∃ (f' : Nat) (xs : List Int) (A : Option Addr) (cap : Nat), f = f' + 1 ∧ d = .l (xs.map fun x => [.i x]) ∧ v = .slice A xs.length cap ∧ xs.length ≤ cap ∧ cap ≤ maxLen ∧
    ∀ (i : Nat) (hi : i < xs.length), ∃ b o : Nat, A = some ⟨b, o, none⟩ ∧ b < B ∧ w.cell? ⟨b, o + i, none⟩ = some (.int .i64 xs[i]) ∧ InI xs[i] := by
  obtain ⟨f', rows, A, cap, rfl, rfl, rfl, h1, h2, h3⟩ := Rd.sl h
  have each : ∀ i, i < rows.length → ∃ x : Int, rows[i]? = some [.i x] ∧ ∃ b o : Nat, A = some ⟨b, o, none⟩ ∧ b < B ∧ w.cell? ⟨b, o + i, none⟩ = some (.int .i64 x) ∧ InI x := by
    intro i hi
    obtain ⟨b, o, cs, hA, hb, hc, hd⟩ := h3 i rows[i] (List.getElem?_eq_getElem hi)
    rw [List.getElem?_eq_getElem hi]
    generalize rows[i] = row at *
    obtain ⟨c, d, vs', ds', rfl, rfl, hd1, hn⟩ := RdsOf.cons hd
    obtain ⟨rfl, rfl⟩ := RdsOf.nil hn
    obtain ⟨x, rfl, rfl, hx⟩ := Rd.int hd1
    refine ⟨x, rfl, b, o, hA, hb, ?_, hx⟩
    · have := hc 0 _ rfl
      rwa [show (tab .int).length = 1 from rfl, Nat.mul_one, Nat.add_zero] at this
  obtain ⟨xs, hl, hx⟩ := list_of rows.length each
  refine ⟨f', xs, A, cap, rfl, ?_, by rw [hl], by omega, h2, fun i hi => (hx i hi).2⟩
  congr 1
  apply List.ext_getElem (by simp [hl])
  intro i h1 h2
  have := (hx i (by omega)).1
  rw [List.getElem?_eq_getElem h1] at this
  simpa using Option.some.inj this
/-- A struct read whole out of memory. -/
theorem run_load_cells {P : Program} (w : World) (b o : Nat) (ty : TypeId) (fs : Array Field) (cs : List Value) (hcell : ∀ (j : Nat) (u : Value), cs[j]? = some u → w.cell? ⟨b, o + j, none⟩ = some u)
    (hu : P.underlying ty = some (.struct fs)) (hi : (P.info? ty).map (·.size) = some cs.length) : (loadVar ty ⟨b, o, none⟩).run P w = .ok (.agg cs.toArray) w := by
  have hl : (loadCells ⟨b, o, none⟩ cs.length).run P w = .ok cs.toArray w :=
    run_loadCells_list (P := P) w ⟨b, o, none⟩ cs (fun j v hv => by rw [add_at]; exact hcell j v hv)
  cases hq : P.info? ty with
  | none => simp [hq] at hi
  | some i =>
    have hs : i.size = cs.length := by simpa [hq] using hi
    have hagg : (isAgg ty).run P w = .ok true w := by
      unfold isAgg
      rw [Sem.run_bind, run_underlying hu w]
      rfl
    simp [loadVar, Sem.run_bind, hagg, sizeOf, typeInfo, hq, hs, hl]
theorem typ_cells {f B : Nat} {w : World} {vs : List Value} {ds : List D} (h : Rds f B w typSh vs ds) : ∃ (k z : Int) (g bg : Bool) (nv iv mv bv : Value) (nd id md bd : D) (c : Int),
    vs = [.int .i64 k, .int .i64 z, .bool g, .bool bg, nv, iv, mv, bv, .int .i64 c] ∧ ds = [.i k, .i z, .b g, .b bg, nd, id, md, bd, .i c] ∧ InI k ∧ InI z ∧ InI c ∧
    Rd f B w (.sl .str) nv nd ∧ Rd f B w (.sl .int) iv id ∧ Rd f B w (.sl .mem) mv md ∧ Rd f B w (.sl .typ) bv bd := by
  obtain ⟨v0, d0, _, _, rfl, rfl, h0, h⟩ := RdsOf.cons h
  obtain ⟨v1, d1, _, _, rfl, rfl, h1, h⟩ := RdsOf.cons h
  obtain ⟨v2, d2, _, _, rfl, rfl, h2, h⟩ := RdsOf.cons h
  obtain ⟨v3, d3, _, _, rfl, rfl, h3, h⟩ := RdsOf.cons h
  obtain ⟨v4, d4, _, _, rfl, rfl, h4, h⟩ := RdsOf.cons h
  obtain ⟨v5, d5, _, _, rfl, rfl, h5, h⟩ := RdsOf.cons h
  obtain ⟨v6, d6, _, _, rfl, rfl, h6, h⟩ := RdsOf.cons h
  obtain ⟨v7, d7, _, _, rfl, rfl, h7, h⟩ := RdsOf.cons h
  obtain ⟨v8, d8, _, _, rfl, rfl, h8, h⟩ := RdsOf.cons h
  obtain ⟨rfl, rfl⟩ := RdsOf.nil h
  obtain ⟨k, rfl, rfl, i0⟩ := Rd.int h0
  obtain ⟨z, rfl, rfl, i1⟩ := Rd.int h1
  obtain ⟨g, rfl, rfl⟩ := Rd.bool h2
  obtain ⟨bg, rfl, rfl⟩ := Rd.bool h3
  obtain ⟨c, rfl, rfl, i8⟩ := Rd.int h8
  exact ⟨k, z, g, bg, v4, v5, v6, v7, d4, d5, d6, d7, c, rfl, rfl, i0, i1, i8, h4, h5, h6, h7⟩
theorem mem_cells {f B : Nat} {w : World} {vs : List Value} {ds : List D} (h : Rds f B w (tab .mem) vs ds) : ∃ (x : ByteArray) (o : Int) (vs' : List Value) (ds' : List D), vs = .string x :: .int .i64 o :: vs' ∧ ds = .s x :: .i o :: ds' ∧ x.size ≤ maxLen ∧ InI o ∧ Rds f B w typSh vs' ds' := by
  obtain ⟨v0, d0, _, _, rfl, rfl, h0, hh⟩ := RdsOf.cons h
  obtain ⟨v1, d1, vs', ds', rfl, rfl, h1, hh2⟩ := RdsOf.cons hh
  obtain ⟨x, rfl, rfl, i0⟩ := Rd.str h0
  obtain ⟨o, rfl, rfl, i1⟩ := Rd.int h1
  exact ⟨x, o, vs', ds', rfl, rfl, i0, i1, hh2⟩
/-- A load of a struct, as one step of a walk. -/
theorem wpList_load_agg {P : Program} {ops : Array Oper} {rest : List Oper} {o : Oper} {a : Act} {w : World} {Q : Exit → Act → World → Prop} (hgd : o.guard = none) (ty : TypeId) (x : Operand) (ho : o.op = .load ty x)
    (p : Addr) (hx : a.eval x = .pointer (some p)) (v : Value) (hrun : (loadVar ty p).run P w = .ok v w) (h : wpList P ops Q rest (a.put o.dst v) w) : wpList P ops Q (o :: rest) a w :=
  wpList_plain hgd fun K hK => by
    unfold Oper.wp execOp
    simp only [ho, hx, Instr.loadAt, Instr.sureAddr, Sem.run_bind, Sem.run_pure, Result.andThen_ok, hrun]
    exact hK _ _ h
end Go.Proofs.Ytmghbgnalkkppaa
