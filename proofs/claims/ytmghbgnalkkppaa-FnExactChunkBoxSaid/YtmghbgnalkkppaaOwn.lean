/- What it is for a value to read as a tree by slices of its own: each in a block of its own. Words and lemmas. No statement is proved here. -/
import Derived.Test.YtmghbgnalkkppaaData
import Derived.Deep.MidRow
import Derived.Laws.MakeOwn
namespace Go.Proofs.Ytmghbgnalkkppaa
open Go.RowKit
set_option linter.unusedVariables false

/-- Cell by cell, with the blocks. -/
def OwsOf (R : Sh → Value → D → List Nat → Prop) : List Sh → List Value → List D → List Nat → Prop
  | [], [], [], S => S = []
  | q :: ss, v :: vs, d :: ds, S => ∃ S1 S2, S = S1 ++ S2 ∧ R q v d S1 ∧ OwsOf R ss vs ds S2
  | _, _, _, _ => False
/-- The elements of a slice lie in block b from o on. -/
def RwOf (R : Sh → Value → D → List Nat → Prop) (w : World) (r : RT) (b o : Nat) (rows : List (List D)) (parts : List (List Nat)) : Prop :=
  parts.length = rows.length ∧ ∀ (i : Nat) (row : List D), rows[i]? = some row → ∃ (cs : List Value) (Si : List Nat), parts[i]? = some Si ∧ w.rangeAt b (o + i * (tab r).length) cs ∧ OwsOf R (tab r) cs row Si
/-- A value that reads as a tree; S: the blocks of its slices, each once for each slice. -/
def Ow : Nat → World → Sh → Value → D → List Nat → Prop
  | _, _, .int, v, .i n, S => v = .int .i64 n ∧ InI n ∧ S = []
  | _, _, .bool, v, .b x, S => v = .bool x ∧ S = []
  | _, _, .str, v, .s x, S => v = .string x ∧ x.size ≤ maxLen ∧ S = []
  | f + 1, w, .sl r, v, .l rows, S => ∃ (A : Option Addr) (cap : Nat), v = .slice A rows.length cap ∧ rows.length ≤ cap ∧ cap ≤ maxLen ∧
      ((rows = [] ∧ S = []) ∨ ∃ (b o : Nat) (parts : List (List Nat)), A = some ⟨b, o, none⟩ ∧ S = b :: parts.flatten ∧ w.there b o (rows.length * (tab r).length) ∧ RwOf (Ow f w) w r b o rows parts)
  | _, _, _, _, _, _ => False
def Ows (f : Nat) (w : World) : List Sh → List Value → List D → List Nat → Prop := OwsOf (Ow f w)
def Rw (f : Nat) (w : World) : RT → Nat → Nat → List (List D) → List (List Nat) → Prop := RwOf (Ow f w) w

theorem OwsOf.mono {R R' : Sh → Value → D → List Nat → Prop} : ∀ {ss : List Sh} {vs : List Value} {ds : List D} {S : List Nat}, (∀ q v d S', (∀ b ∈ S', b ∈ S) → R q v d S' → R' q v d S') → OwsOf R ss vs ds S → OwsOf R' ss vs ds S
  | [], [], [], _, _, h => h
  | q :: ss, v :: vs, d :: ds, S, hm, ⟨S1, S2, hS, h1, h2⟩ => by
    subst hS
    exact ⟨S1, S2, rfl, hm _ _ _ _ (fun b hb => List.mem_append_left _ hb) h1, OwsOf.mono (fun q v d S' hs h => hm q v d S' (fun b hb => List.mem_append_right _ (hs b hb)) h) h2⟩
theorem OwsOf.length {R : Sh → Value → D → List Nat → Prop} : ∀ {ss : List Sh} {vs : List Value} {ds : List D} {S : List Nat}, OwsOf R ss vs ds S → vs.length = ss.length ∧ ds.length = ss.length
  | [], [], [], _, _ => ⟨rfl, rfl⟩
  | q :: ss, v :: vs, d :: ds, S, ⟨S1, S2, hS, h1, h2⟩ => by have := OwsOf.length h2; simp; omega
theorem OwsOf.cons {R : Sh → Value → D → List Nat → Prop} {q : Sh} {ss : List Sh} {vs : List Value} {ds : List D} {S : List Nat} (h : OwsOf R (q :: ss) vs ds S) : ∃ v d vs' ds' S1 S2, vs = v :: vs' ∧ ds = d :: ds' ∧ S = S1 ++ S2 ∧ R q v d S1 ∧ OwsOf R ss vs' ds' S2 := by
  cases vs <;> cases ds <;> first | exact False.elim h | (obtain ⟨S1, S2, hS, h1, h2⟩ := h; exact ⟨_, _, _, _, S1, S2, rfl, rfl, hS, h1, h2⟩)
theorem OwsOf.nil {R : Sh → Value → D → List Nat → Prop} {vs : List Value} {ds : List D} {S : List Nat} (h : OwsOf R [] vs ds S) : vs = [] ∧ ds = [] ∧ S = [] := by
  cases vs <;> cases ds <;> first | exact False.elim h | exact ⟨rfl, rfl, h⟩
/-- The blocks are as they were. -/
def Same (S : List Nat) (w w' : World) : Prop := ∀ b ∈ S, w'.heap[b]? = w.heap[b]?
theorem Same.below {S : List Nat} {B : Nat} {w w' : World} (h : Below B w w') (hS : ∀ b ∈ S, b < B) : Same S w w' := fun b hb => h.block b (hS b hb)
theorem Same.refl (S : List Nat) (w : World) : Same S w w := fun _ _ => rfl
theorem Same.trans {S : List Nat} {w w1 w2 : World} (h : Same S w w1) (k : Same S w1 w2) : Same S w w2 := fun b hb => (k b hb).trans (h b hb)
theorem Same.sub {S S' : List Nat} {w w' : World} (h : Same S w w') (hs : ∀ b ∈ S', b ∈ S) : Same S' w w' := fun b hb => h b (hs b hb)
theorem rangeAt_same {w w' : World} {b o : Nat} {cs : List Value} (hb : w'.heap[b]? = w.heap[b]?) (h : w.rangeAt b o cs) : w'.rangeAt b o cs := fun j v hj => by
  rw [World.cell?_of_block (w := w) hb]; exact h j v hj
theorem there_same {w w' : World} {b o n : Nat} (hb : w'.heap[b]? = w.heap[b]?) (h : w.there b o n) : w'.there b o n := fun j hj => by
  rw [World.cell?_of_block (w := w) hb, World.frozen?_of_block (w := w) hb]; exact h j hj
theorem mem_part {parts : List (List Nat)} {i : Nat} {Si : List Nat} (h : parts[i]? = some Si) : ∀ b ∈ Si, b ∈ parts.flatten := fun b hb => List.mem_flatten.2 ⟨Si, List.mem_of_getElem? h, hb⟩
theorem Ow.same : ∀ {f f' : Nat} {w w' : World} (q : Sh) (v : Value) (d : D) (S : List Nat), f ≤ f' → Same S w w' → Ow f w q v d S → Ow f' w' q v d S
  | f, f', w, w', .int, v, .i n, S, _, _, h => by cases f <;> cases f' <;> exact h
  | f, f', w, w', .bool, v, .b n, S, _, _, h => by cases f <;> cases f' <;> exact h
  | f, f', w, w', .str, v, .s n, S, _, _, h => by cases f <;> cases f' <;> exact h
  | f + 1, f' + 1, w, w', .sl r, v, .l rows, S, hf, hw, ⟨A, cap, hv, h1, h2, h3⟩ => by
    refine ⟨A, cap, hv, h1, h2, ?_⟩
    rcases h3 with h3 | ⟨b, o, parts, hA, hS, ht, hl, hr⟩
    · exact .inl h3
    · subst hS
      have hb := hw b (by simp)
      refine .inr ⟨b, o, parts, hA, rfl, there_same hb ht, hl, fun i row hi => ?_⟩
      obtain ⟨cs, Si, hSi, hc, ho⟩ := hr i row hi
      refine ⟨cs, Si, hSi, rangeAt_same hb hc, ho.mono fun q v d S' hs h => Ow.same q v d S' (by omega) (fun b hb => hw b (List.mem_cons_of_mem _ (mem_part hSi b (hs b hb)))) h⟩
  | f + 1, 0, _, _, .sl r, _, .l rows, _, hf, _, _ => absurd hf (by omega)
  | 0, _, _, _, .sl r, _, .l rows, _, _, _, h => False.elim (by unfold Ow at h; exact h)
  | f, _, _, _, .int, _, .b _, _, _, _, h => False.elim (by cases f <;> exact h)
  | f, _, _, _, .int, _, .s _, _, _, _, h => False.elim (by cases f <;> exact h)
  | f, _, _, _, .int, _, .l _, _, _, _, h => False.elim (by cases f <;> exact h)
  | f, _, _, _, .bool, _, .i _, _, _, _, h => False.elim (by cases f <;> exact h)
  | f, _, _, _, .bool, _, .s _, _, _, _, h => False.elim (by cases f <;> exact h)
  | f, _, _, _, .bool, _, .l _, _, _, _, h => False.elim (by cases f <;> exact h)
  | f, _, _, _, .str, _, .i _, _, _, _, h => False.elim (by cases f <;> exact h)
  | f, _, _, _, .str, _, .b _, _, _, _, h => False.elim (by cases f <;> exact h)
  | f, _, _, _, .str, _, .l _, _, _, _, h => False.elim (by cases f <;> exact h)
  | f, _, _, _, .sl _, _, .i _, _, _, _, h => False.elim (by cases f <;> exact h)
  | f, _, _, _, .sl _, _, .b _, _, _, _, h => False.elim (by cases f <;> exact h)
  | f, _, _, _, .sl _, _, .s _, _, _, _, h => False.elim (by cases f <;> exact h)
theorem Ows.same {f f' : Nat} {w w' : World} {ss : List Sh} {vs : List Value} {ds : List D} {S : List Nat} (h : Ows f w ss vs ds S) (hf : f ≤ f') (hw : Same S w w') : Ows f' w' ss vs ds S :=
  OwsOf.mono (fun q v d S' hs h => Ow.same q v d S' hf (hw.sub hs) h) h
/-- What is one's own reads. -/
theorem rds_of_ows {R : Sh → Value → D → List Nat → Prop} {R' : Sh → Value → D → Prop} : ∀ {ss : List Sh} {vs : List Value} {ds : List D} {S : List Nat}, (∀ q v d S', (∀ b ∈ S', b ∈ S) → R q v d S' → R' q v d) → OwsOf R ss vs ds S → RdsOf R' ss vs ds
  | [], [], [], _, _, h => trivial
  | q :: ss, v :: vs, d :: ds, S, hm, ⟨S1, S2, hS, h1, h2⟩ => by
    subst hS
    exact ⟨hm _ _ _ _ (fun b hb => List.mem_append_left _ hb) h1, rds_of_ows (fun q v d S' hs h => hm q v d S' (fun b hb => List.mem_append_right _ (hs b hb)) h) h2⟩
theorem Ow.rd : ∀ {f : Nat} {w : World} {B : Nat} (q : Sh) (v : Value) (d : D) (S : List Nat), (∀ b ∈ S, b < B) → Ow f w q v d S → Rd f B w q v d
  | f, w, B, .int, v, .i n, S, _, h => by cases f <;> exact ⟨h.1, h.2.1⟩
  | f, w, B, .bool, v, .b n, S, _, h => by cases f <;> exact h.1
  | f, w, B, .str, v, .s n, S, _, h => by cases f <;> exact ⟨h.1, h.2.1⟩
  | f + 1, w, B, .sl r, v, .l rows, S, hB, ⟨A, cap, hv, h1, h2, h3⟩ => by
    refine ⟨A, cap, hv, h1, h2, fun i row hi => ?_⟩
    rcases h3 with ⟨h3, _⟩ | ⟨b, o, parts, hA, hS, ht, hl, hr⟩
    · subst h3; simp at hi
    · subst hS
      obtain ⟨cs, Si, hSi, hc, ho⟩ := hr i row hi
      refine ⟨b, o, cs, hA, hB b (by simp), fun j u hj => hc j u hj, rds_of_ows (fun q v d S' hs h => Ow.rd q v d S' (fun b hb => hB b (List.mem_cons_of_mem _ (mem_part hSi b (hs b hb)))) h) ho⟩
  | 0, _, _, .sl r, _, .l rows, _, _, h => False.elim (by unfold Ow at h; exact h)
  | f, _, _, .int, _, .b _, _, _, h => False.elim (by cases f <;> exact h)
  | f, _, _, .int, _, .s _, _, _, h => False.elim (by cases f <;> exact h)
  | f, _, _, .int, _, .l _, _, _, h => False.elim (by cases f <;> exact h)
  | f, _, _, .bool, _, .i _, _, _, h => False.elim (by cases f <;> exact h)
  | f, _, _, .bool, _, .s _, _, _, h => False.elim (by cases f <;> exact h)
  | f, _, _, .bool, _, .l _, _, _, h => False.elim (by cases f <;> exact h)
  | f, _, _, .str, _, .i _, _, _, h => False.elim (by cases f <;> exact h)
  | f, _, _, .str, _, .b _, _, _, h => False.elim (by cases f <;> exact h)
  | f, _, _, .str, _, .l _, _, _, h => False.elim (by cases f <;> exact h)
  | f, _, _, .sl _, _, .i _, _, _, h => False.elim (by cases f <;> exact h)
  | f, _, _, .sl _, _, .b _, _, _, h => False.elim (by cases f <;> exact h)
  | f, _, _, .sl _, _, .s _, _, _, h => False.elim (by cases f <;> exact h)
theorem Ows.rds {f : Nat} {w : World} {B : Nat} {ss : List Sh} {vs : List Value} {ds : List D} {S : List Nat} (h : Ows f w ss vs ds S) (hB : ∀ b ∈ S, b < B) : Rds f B w ss vs ds :=
  rds_of_ows (fun q v d S' hs h => Ow.rd q v d S' (fun b hb => hB b (hs b hb)) h) h
/-- New blocks, each once. -/
def Fresh (w w' : World) (S : List Nat) : Prop := S.Nodup ∧ ∀ b ∈ S, w.heap.size ≤ b ∧ b < w'.heap.size
theorem Fresh.nil (w w' : World) : Fresh w w' [] := ⟨List.nodup_nil, fun b hb => by cases hb⟩
theorem Fresh.append {w w1 w2 : World} {S T : List Nat} (h : Fresh w w1 S) (k : Fresh w1 w2 T) (h1 : w.heap.size ≤ w1.heap.size) (h2 : w1.heap.size ≤ w2.heap.size) : Fresh w w2 (S ++ T) := by
  refine ⟨List.nodup_append.2 ⟨h.1, k.1, fun a ha b hb => ?_⟩, fun b hb => ?_⟩
  · have := h.2 a ha; have := k.2 b hb; omega
  · rcases List.mem_append.1 hb with hb | hb
    · have := h.2 b hb; omega
    · have := k.2 b hb; omega
theorem Fresh.wide {w0 w w1 w2 : World} {S : List Nat} (h : Fresh w w1 S) (h1 : w0.heap.size ≤ w.heap.size) (h2 : w1.heap.size ≤ w2.heap.size) : Fresh w0 w2 S :=
  ⟨h.1, fun b hb => by have := h.2 b hb; omega⟩
/-- What a call gives that makes one value, or the cells of a struct, of new memory. -/
def Made (f : Nat) (q : Sh) (d : D) (w : World) (e : Ending) (w' : World) : Prop := ∃ v S, e = .returned v ∧ Ow f w' q v d S ∧ Fresh w w' S ∧ Below w.heap.size w w'
def MadeAgg (f : Nat) (ss : List Sh) (ds : List D) (w : World) (e : Ending) (w' : World) : Prop := ∃ vs S, e = .returned (.agg vs.toArray) ∧ Ows f w' ss vs ds S ∧ Fresh w w' S ∧ Below w.heap.size w w'
theorem heap_setCells_other (b k : Nat) (h : k ≠ b) : ∀ (vs : List Value) (o : Nat) (w : World), (w.setCells b o vs).heap[k]? = w.heap[k]?
  | [], _, _ => rfl
  | v :: vs, o, w => by
    rw [World.setCells, heap_setCells_other b k h vs (o + 1), heap_setCell_other w ⟨b, o, none⟩ k v h]
theorem size_setCells (b : Nat) : ∀ (vs : List Value) (o : Nat) (w : World), (w.setCells b o vs).heap.size = w.heap.size
  | [], _, _ => rfl
  | v :: vs, o, w => by
    rw [World.setCells, size_setCells b vs (o + 1)]
    simp [World.setCell]
theorem below_setCells {B b : Nat} (hB : B ≤ b) : ∀ (vs : List Value) (o : Nat) {w w' : World}, Below B w w' → Below B w (w'.setCells b o vs)
  | [], _, _, _, h => h
  | v :: vs, o, w, w', h => below_setCells hB vs (o + 1) (h.setCell (p := ⟨b, o, none⟩) hB v)
theorem there_sub {w : World} {b o n o' n' : Nat} (h : w.there b o n) (h1 : o ≤ o') (h2 : o' + n' ≤ o + n) : w.there b o' n' := fun j hj => by
  have := h (o' - o + j) (by omega)
  rwa [show o + (o' - o + j) = o' + j from by omega] at this
theorem Rw.snoc {f : Nat} {w w1 : World} {r : RT} {b k : Nat} {rows : List (List D)} {parts : List (List Nat)} {row : List D} {cs : List Value} {Si : List Nat} (h : Rw f w r b 0 rows parts) (hk : rows.length = k)
    (hs : Same (b :: parts.flatten) w w1) (hel : Ows f w1 (tab r) cs row Si) (hb1 : b ∉ parts.flatten) (hb2 : b ∉ Si) (ht : w1.there b (k * (tab r).length) (tab r).length) :
    Rw f (w1.setCells b (k * (tab r).length) cs) r b 0 (rows ++ [row]) (parts ++ [Si]) := by
  obtain ⟨hl, hr⟩ := h
  have hcl := (OwsOf.length hel).1
  refine ⟨by simp [hl], fun i row' hi => ?_⟩
  rcases Nat.lt_or_ge i k with hlt | hge
  · rw [List.getElem?_append_left (by omega)] at hi
    obtain ⟨cs', Si', h1, h2, h3⟩ := hr i row' hi
    refine ⟨cs', Si', by rw [List.getElem?_append_left (by omega)]; exact h1, ?_, ?_⟩
    · refine World.rangeAt_setCells_apart (rangeAt_same (hs b (by simp)) h2) _ _ _ (.inr (.inl ?_))
      have := (OwsOf.length h3).1
      have hm := Nat.mul_le_mul_right (tab r).length (show i + 1 ≤ k from hlt)
      rw [Nat.add_mul, Nat.one_mul] at hm
      omega
    · refine h3.mono fun q v d S' hs' h => Ow.same q v d S' (Nat.le_refl _) (fun c hc => ?_) h
      have hcm := mem_part h1 c (hs' c hc)
      rw [heap_setCells_other b c (fun e => hb1 (e ▸ hcm))]
      exact hs c (by simp only [List.mem_cons]; exact .inr hcm)
  · have hik : i = k := by
      rcases Nat.lt_or_ge i (rows ++ [row]).length with hl' | hl'
      · simp at hl'; omega
      · rw [List.getElem?_eq_none hl'] at hi; cases hi
    subst hik
    rw [List.getElem?_append_right (by omega), hk, Nat.sub_self] at hi
    obtain rfl : row = row' := by simpa using hi
    refine ⟨cs, Si, by rw [List.getElem?_append_right (by omega), hl, hk, Nat.sub_self]; rfl, ?_, ?_⟩
    · rw [Nat.zero_add]
      exact World.rangeAt_setCells_same _ _ _ _ (by rw [hcl]; exact ht)
    · refine hel.mono fun q v d S' hs' h => Ow.same q v d S' (Nat.le_refl _) (fun c hc => heap_setCells_other b c (fun e => hb2 (e ▸ hs' c hc)) _ _ _) h
/-- A slice that the call is filling: its block is the first new one, k elements stand. -/
def Bld (f : Nat) (w wr : World) (r : RT) (k : Nat) (rows : List (List D)) : Prop := ∃ parts, Rw f wr r w.heap.size 0 (rows.take k) parts ∧ parts.flatten.Nodup ∧ (∀ b ∈ parts.flatten, w.heap.size < b ∧ b < wr.heap.size) ∧
  wr.there w.heap.size 0 (rows.length * (tab r).length) ∧ Below w.heap.size w wr ∧ w.heap.size < wr.heap.size
theorem there_alloc (w : World) (C : Array Value) (t : TypeId) (n : Nat) (hn : n ≤ C.size) : (w.alloc (.cells C t)).there w.heap.size 0 n := fun j hj => by
  have hg := heap_alloc_new w (.cells C t)
  refine ⟨?_, frozen_of_row _ _ _ _ _ hg⟩
  rw [cell_of_row _ _ _ _ _ _ hg, Nat.zero_add, Array.getElem?_eq_getElem (by omega)]
  rfl
theorem Bld.start (f : Nat) (w : World) (r : RT) (rows : List (List D)) (C : Array Value) (t : TypeId) (h : rows.length * (tab r).length ≤ C.size) : Bld f w (w.alloc (.cells C t)) r 0 rows :=
  ⟨[], ⟨rfl, fun i row hi => by simp at hi⟩, List.nodup_nil, fun b hb => (by cases hb), there_alloc w C t _ h, (Below.refl _ w).alloc (Nat.le_refl _) _, by simp⟩
theorem Bld.below {f : Nat} {w wr : World} {r : RT} {k : Nat} {rows : List (List D)} (h : Bld f w wr r k rows) : Below w.heap.size w wr ∧ w.heap.size < wr.heap.size := by
  obtain ⟨_, _, _, _, _, h1, h2⟩ := h; exact ⟨h1, h2⟩
theorem Bld.there {f : Nat} {w wr w1 : World} {r : RT} {k : Nat} {rows : List (List D)} (h : Bld f w wr r k rows) (hw : Below wr.heap.size wr w1) (hk : k < rows.length) : w1.there w.heap.size (k * (tab r).length) (tab r).length := by
  obtain ⟨_, _, _, _, h1, _, h2⟩ := h
  refine there_same (hw.block _ h2) (there_sub h1 (Nat.zero_le _) ?_)
  have hm := Nat.mul_le_mul_right (tab r).length (show k + 1 ≤ rows.length from hk)
  rw [Nat.add_mul, Nat.one_mul] at hm
  omega
theorem Bld.step {f : Nat} {w wr w1 : World} {r : RT} {k : Nat} {rows : List (List D)} {cs : List Value} {Si : List Nat} (h : Bld f w wr r k rows) (hk : k < rows.length) (hw : Below wr.heap.size wr w1)
    (hel : Ows f w1 (tab r) cs rows[k] Si) (hf : Fresh wr w1 Si) : Bld f w (w1.setCells w.heap.size (k * (tab r).length) cs) r (k + 1) rows := by
  have hth := h.there hw hk
  obtain ⟨parts, hr, hnd, hb, ht, hbel, hlt⟩ := h
  have hsz := hw.size
  have hnot : w.heap.size ∉ parts.flatten := fun hm => by have := hb _ hm; omega
  have hnot2 : w.heap.size ∉ Si := fun hm => by have := hf.2 _ hm; omega
  refine ⟨parts ++ [Si], ?_, ?_, ?_, ?_, ?_, ?_⟩
  · rw [List.take_succ_eq_append_getElem hk]
    exact Rw.snoc hr (by simp; omega) (Same.below hw (fun b hb' => by
      rcases List.mem_cons.1 hb' with rfl | hb'
      · exact hlt
      · exact (hb b hb').2)) hel hnot hnot2 hth
  · rw [List.flatten_append, List.flatten_cons, List.flatten_nil, List.append_nil]
    refine List.nodup_append.2 ⟨hnd, hf.1, fun a ha b hb' => ?_⟩
    have := hb a ha; have := hf.2 b hb'; omega
  · intro b hb'
    rw [size_setCells]
    rw [List.flatten_append, List.flatten_cons, List.flatten_nil, List.append_nil, List.mem_append] at hb'
    rcases hb' with hb' | hb'
    · have := hb b hb'; omega
    · have := hf.2 b hb'; omega
  · exact World.there_setCells (there_same (hw.block _ hlt) ht) _ _ _
  · exact below_setCells (Nat.le_refl _) _ _ (hbel.trans (hw.mono (by omega)))
  · rw [size_setCells]; omega
theorem Bld.done {f : Nat} {w wr : World} {r : RT} {k : Nat} {rows : List (List D)} (h : Bld f w wr r k rows) (hk : k = rows.length) (hc : rows.length ≤ maxLen) : Made (f + 1) (.sl r) (.l rows) w (.returned (.slice (some ⟨w.heap.size, 0, none⟩) rows.length rows.length)) wr := by
  obtain ⟨parts, hr, hnd, hb, ht, hbel, hlt⟩ := h
  subst hk
  rw [List.take_length] at hr
  refine ⟨_, w.heap.size :: parts.flatten, rfl, ⟨_, _, rfl, Nat.le_refl _, hc, .inr ⟨_, 0, parts, rfl, rfl, ht, hr⟩⟩, ⟨List.nodup_cons.2 ⟨fun hm => ?_, hnd⟩, fun b hb' => ?_⟩, hbel⟩
  · have := hb _ hm; omega
  · rcases List.mem_cons.1 hb' with rfl | hb'
    · exact ⟨Nat.le_refl _, hlt⟩
    · have := hb b hb'; omega
theorem Ow.one {f : Nat} {w : World} {q : Sh} {v : Value} {d : D} {S : List Nat} (h : Ow f w q v d S) : v.oneCell' = true := by
  cases q <;> cases d <;> cases f <;> first | exact False.elim h | (obtain ⟨rfl, _⟩ := h; rfl) | (obtain ⟨A, cap, rfl, _⟩ := h; rfl)
theorem ows_one : ∀ {f : Nat} {w : World} {ss : List Sh} {vs : List Value} {ds : List D} {S : List Nat}, OwsOf (Ow f w) ss vs ds S → ∀ v ∈ vs, v.oneCell' = true
  | _, _, [], [], [], _, _ => fun v hv => by cases hv
  | _, _, q :: ss, v :: vs, d :: ds, S, ⟨S1, S2, hS, h1, h2⟩ => fun u hu => by
    rcases List.mem_cons.1 hu with rfl | hu
    · exact Ow.one h1
    · exact ows_one h2 u hu
/-- 'make' of a slice of whatever elements. -/
theorem make_all {P : Program} (t e : TypeId) (n size bytes : Nat) (ht : P.underlying t = some (.slice e)) (hinfo : (P.info? e).map (fun i => (i.zero.isSome, i.size, i.bytes)) = some (true, size, bytes)) (hb : bytes * n ≤ 281474976710656) (hn : n ≤ 9223372036854775807) :
    ∃ C : Array Value, C.size = n * size ∧ ∀ w : World, (Instr.makeSlice t (.int .i64 (n : Int)) (.int .i64 (n : Int))).run P w = .ok (.slice (some ⟨w.heap.size, 0, none⟩) n n) (w.alloc (.cells C e)) := by
  obtain ⟨i, hi, he⟩ := Option.map_eq_some_iff.1 hinfo
  simp only [Prod.mk.injEq] at he
  obtain ⟨hz, rfl, rfl⟩ := he
  obtain ⟨z, hz⟩ := Option.isSome_iff_exists.1 hz
  refine ⟨madeCells z.cells (n * i.size), size_madeCells _ _, fun w => ?_⟩
  have hb' : (i.bytes : Int) * (n : Int) ≤ 281474976710656 := by rw [← Int.natCast_mul]; omega
  have := run_make (P := P) w t e i z ht hi hz .i64 .i64 n n (by omega) (Int.le_refl _) hb' (by omega)
  simpa only [Int.toNat_natCast] using this
theorem Ow.mkS (f : Nat) (w : World) (x : ByteArray) (h : x.size ≤ maxLen) : Ow f w .str (.string x) (.s x) [] := by cases f <;> exact ⟨rfl, h, rfl⟩
theorem Ow.mkI (f : Nat) (w : World) (n : Int) (h : InI n) : Ow f w .int (.int .i64 n) (.i n) [] := by cases f <;> exact ⟨rfl, h, rfl⟩
theorem Ow.mkB (f : Nat) (w : World) (x : Bool) : Ow f w .bool (.bool x) (.b x) [] := by cases f <;> exact ⟨rfl, rfl⟩
/-- The three blocks of a copying function: its argument, its result, its variable 'out'. -/
def Tri (w w' : World) (tb tr : TypeId) (box res out : Array Value) : Prop := w'.heap[w.heap.size]? = some (.cells box tb (0, 0)) ∧ w'.heap[w.heap.size + 1]? = some (.cells res tr (0, 0)) ∧ w'.heap[w.heap.size + 1 + 1]? = some (.cells out tr (0, 0)) ∧
  Below w.heap.size w w' ∧ w.heap.size + 3 ≤ w'.heap.size
theorem Tri.start (w : World) (tb tr : TypeId) (box res out : Array Value) : Tri w (((w.alloc (.cells box tb)).alloc (.cells res tr)).alloc (.cells out tr)) tb tr box res out := by
  have e1 : (w.alloc (.cells box tb)).heap.size = w.heap.size + 1 := by simp
  have e2 : ((w.alloc (.cells box tb)).alloc (.cells res tr)).heap.size = w.heap.size + 1 + 1 := by simp
  refine ⟨?_, ?_, ?_, ?_, by simp⟩
  · rw [Below.heap_alloc _ _ _ (by omega), Below.heap_alloc _ _ _ (by omega)]; exact heap_alloc_new w _
  · rw [Below.heap_alloc _ _ _ (by omega), ← e1]; exact heap_alloc_new _ _
  · rw [← e2]; exact heap_alloc_new _ _
  · exact (((Below.refl _ w).alloc (Nat.le_refl _) _).alloc (by omega) _).alloc (by omega) _
theorem Tri.after {w w' w'' : World} {tb tr : TypeId} {box res out : Array Value} (h : Tri w w' tb tr box res out) (hw : Below w'.heap.size w' w'') : Tri w w'' tb tr box res out := by
  obtain ⟨h1, h2, h3, h4, h5⟩ := h
  have := hw.size
  exact ⟨by rw [hw.block _ (by omega)]; exact h1, by rw [hw.block _ (by omega)]; exact h2, by rw [hw.block _ (by omega)]; exact h3, h4.trans (hw.mono (by omega)), by omega⟩
theorem Tri.set {w w' : World} {tb tr : TypeId} {box res out : Array Value} (h : Tri w w' tb tr box res out) (j : Nat) (v : Value) : Tri w (w'.setCell ⟨w.heap.size + 1 + 1, j, none⟩ v) tb tr box res (out.setIfInBounds j v) := by
  obtain ⟨h1, h2, h3, h4, h5⟩ := h
  refine ⟨?_, ?_, heap_setCell_same _ _ _ _ _ _ h3, h4.setCell (by simp; omega) _, by simpa [World.setCell] using h5⟩
  · rw [heap_setCell_other _ _ _ _ (by simp; omega)]; exact h1
  · rw [heap_setCell_other _ _ _ _ (by simp)]; exact h2
theorem Tri.box {w w' : World} {tb tr : TypeId} {box res out : Array Value} (h : Tri w w' tb tr box res out) (j : Nat) (v : Value) (hv : box[j]? = some v) : w'.cell? ⟨w.heap.size, j, none⟩ = some v := by
  rw [cell_of_row _ _ _ _ _ _ h.1]; exact hv
theorem Tri.out {w w' : World} {tb tr : TypeId} {box res out : Array Value} (h : Tri w w' tb tr box res out) (j : Nat) (v : Value) (hv : out[j]? = some v) : w'.cell? ⟨w.heap.size + 1 + 1, j, none⟩ = some v := by
  rw [cell_of_row _ _ _ _ _ _ h.2.2.1]; exact hv
theorem Tri.free {w w' : World} {tb tr : TypeId} {box res out : Array Value} (h : Tri w w' tb tr box res out) (j : Nat) : w'.frozen? ⟨w.heap.size + 1 + 1, j, none⟩ = false := frozen_of_row _ _ _ _ _ h.2.2.1
theorem below_setRow {B b : Nat} {w w' : World} (h : Below B w w') (hB : B ≤ b) (cs : Array Value) : Below B w (w'.setRow b cs) :=
  ⟨h.os, h.tape, h.output, by simpa using h.size, fun k hk => by rw [setRow_other w' b k cs (by omega)]; exact h.block k hk⟩
theorem Same.setCell {S : List Nat} {w w' : World} {b : Nat} (h : Same S w w') (hb : b ∉ S) (o : Nat) (v : Value) : Same S w (w'.setCell ⟨b, o, none⟩ v) := fun c hc => by
  rw [heap_setCell_other w' ⟨b, o, none⟩ c v (fun e => hb (by rw [show b = c from e.symm]; exact hc))]; exact h c hc
theorem Same.setRow {S : List Nat} {w w' : World} {b : Nat} (h : Same S w w') (hb : b ∉ S) (cs : Array Value) : Same S w (w'.setRow b cs) := fun c hc => by
  rw [setRow_other w' b c cs (fun e => hb (e ▸ hc))]; exact h c hc
theorem Ow.slice {f : Nat} {w : World} {r : RT} {v : Value} {d : D} {S : List Nat} (h : Ow f w (.sl r) v d S) : ∃ (A : Option Addr) (n c : Nat), v = .slice A n c := by
  cases d <;> cases f <;> first | exact False.elim h | (obtain ⟨A, cap, rfl, _⟩ := h; exact ⟨A, _, cap, rfl⟩)
def putL (cs : Array Value) : Nat → List Value → Array Value
  | _, [] => cs
  | o, v :: vs => putL (cs.setIfInBounds o v) (o + 1) vs
theorem Tri.setMany {w : World} {tb tr : TypeId} {box res : Array Value} : ∀ (vs : List Value) (j : Nat) {w' : World} {out : Array Value}, Tri w w' tb tr box res out → Tri w (w'.setCells (w.heap.size + 1 + 1) j vs) tb tr box res (putL out j vs)
  | [], _, _, _, h => h
  | v :: vs, j, w', out, h => Tri.setMany vs (j + 1) (h.set j v)
theorem Same.setCells {S : List Nat} {w w' : World} {b : Nat} (h : Same S w w') (hb : b ∉ S) (o : Nat) (vs : List Value) : Same S w (w'.setCells b o vs) := fun c hc => by
  rw [heap_setCells_other b c (fun e => hb (e ▸ hc)) vs o w']; exact h c hc
theorem Tri.there {w w' : World} {tb tr : TypeId} {box res out : Array Value} (h : Tri w w' tb tr box res out) (o n : Nat) (hn : o + n ≤ out.size) : w'.there (w.heap.size + 1 + 1) o n := fun j hj => by
  refine ⟨?_, frozen_of_row _ _ _ _ _ h.2.2.1⟩
  rw [cell_of_row _ _ _ _ _ _ h.2.2.1, Array.getElem?_eq_getElem (by omega)]
  rfl
/-- The cells of a struct Type of one's own, written out. -/
theorem typ_own {f : Nat} {w : World} {vs : List Value} {ds : List D} {S : List Nat} (h : Ows f w typSh vs ds S) : ∃ (k z : Int) (g bg : Bool) (A1 A2 A3 A4 : Option Addr) (n1 n2 n3 n4 c1 c2 c3 c4 : Nat) (c : Int),
    vs = [.int .i64 k, .int .i64 z, .bool g, .bool bg, .slice A1 n1 c1, .slice A2 n2 c2, .slice A3 n3 c3, .slice A4 n4 c4, .int .i64 c] := by
  obtain ⟨v0, d0, _, _, _, _, rfl, rfl, rfl, h0, h⟩ := OwsOf.cons h
  obtain ⟨v1, d1, _, _, _, _, rfl, rfl, rfl, h1, h⟩ := OwsOf.cons h
  obtain ⟨v2, d2, _, _, _, _, rfl, rfl, rfl, h2, h⟩ := OwsOf.cons h
  obtain ⟨v3, d3, _, _, _, _, rfl, rfl, rfl, h3, h⟩ := OwsOf.cons h
  obtain ⟨v4, d4, _, _, _, _, rfl, rfl, rfl, h4, h⟩ := OwsOf.cons h
  obtain ⟨v5, d5, _, _, _, _, rfl, rfl, rfl, h5, h⟩ := OwsOf.cons h
  obtain ⟨v6, d6, _, _, _, _, rfl, rfl, rfl, h6, h⟩ := OwsOf.cons h
  obtain ⟨v7, d7, _, _, _, _, rfl, rfl, rfl, h7, h⟩ := OwsOf.cons h
  obtain ⟨v8, d8, _, _, _, _, rfl, rfl, rfl, h8, h⟩ := OwsOf.cons h
  obtain ⟨rfl, rfl, rfl⟩ := OwsOf.nil h
  obtain ⟨A1, n1, c1, rfl⟩ := Ow.slice h4
  obtain ⟨A2, n2, c2, rfl⟩ := Ow.slice h5
  obtain ⟨A3, n3, c3, rfl⟩ := Ow.slice h6
  obtain ⟨A4, n4, c4, rfl⟩ := Ow.slice h7
  obtain ⟨k, rfl, rfl, _⟩ := Rd.int (Ow.rd (B := 0) _ _ _ _ (by cases d0 <;> cases f <;> first | exact False.elim h0 | (obtain ⟨_, _, rfl⟩ := h0; simp)) h0)
  obtain ⟨z, rfl, rfl, _⟩ := Rd.int (Ow.rd (B := 0) _ _ _ _ (by cases d1 <;> cases f <;> first | exact False.elim h1 | (obtain ⟨_, _, rfl⟩ := h1; simp)) h1)
  obtain ⟨g, rfl, rfl⟩ := Rd.bool (Ow.rd (B := 0) _ _ _ _ (by cases d2 <;> cases f <;> first | exact False.elim h2 | (obtain ⟨_, rfl⟩ := h2; simp)) h2)
  obtain ⟨bg, rfl, rfl⟩ := Rd.bool (Ow.rd (B := 0) _ _ _ _ (by cases d3 <;> cases f <;> first | exact False.elim h3 | (obtain ⟨_, rfl⟩ := h3; simp)) h3)
  obtain ⟨c, rfl, rfl, _⟩ := Rd.int (Ow.rd (B := 0) _ _ _ _ (by cases d8 <;> cases f <;> first | exact False.elim h8 | (obtain ⟨_, _, rfl⟩ := h8; simp)) h8)
  exact ⟨k, z, g, bg, A1, A2, A3, A4, n1, n2, n3, n4, c1, c2, c3, c4, c, rfl⟩
/-- A struct stored into the variable 'out': the world behind it under a name of its own. -/
theorem wpList_store_out {P : Program} {ops : Array Oper} {rest : List Oper} {op : Oper} {a : Act} {w w' : World} {Q : Exit → Act → World → Prop} {tb tr : TypeId} {box res out out' : Array Value} (hgd : op.guard = none) (ty : TypeId) (x y : Operand) (ho : op.op = .store ty x y)
    (j : Nat) (cells : Array Value) (hx : a.eval x = .pointer (some ⟨w.heap.size + 1 + 1, j, none⟩)) (hy : a.eval y = .agg cells) (tri : Tri w w' tb tr box res out) (hput : putL out j cells.toList = out') (hn : j + cells.size ≤ out.size)
    (hi : (P.info? ty).map (·.size) = some cells.size) (h1 : cells.all (·.oneCell') = true)
    (h : ∀ W2, Tri w W2 tb tr box res out' → (∀ S, w.heap.size + 1 + 1 ∉ S → Same S w' W2) → W2.heap.size = w'.heap.size → wpList P ops Q rest (a.put op.dst undef) W2) : wpList P ops Q (op :: rest) a w' := by
  subst hput
  exact wpList_store_mid hgd ty x y ho _ j cells hx hy (tri.there j cells.size hn) hi h1 (h _ (tri.setMany _ _) (fun S hn => (Same.refl _ _).setCells hn _ _) (size_setCells _ _ _ _))
end Go.Proofs.Ytmghbgnalkkppaa
