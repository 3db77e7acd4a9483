/- Contracts of the functions that resize a dataspace. No statement is proved here. -/
import Derived.Test.YtmnmjepppghnlaaMrS
import Derived.Test.YtmnmjepppghnlaaSpV
import Derived.Laws.ResultCell
namespace Go.Proofs.Ytmnmjepppghnlaa
open Go.RowKit
set_option linter.unusedVariables false
/-- A dataspace in new memory, and a code. -/
def RszAt (ys ns : List Int) (code : Int) (w : World) (e : Ending) (w' : World) : Prop := ∃ A1 A2 c1 c2, e = .returned (.tuple #[.agg #[.slice A1 ys.length c1, .slice A2 ns.length c2], .int .i64 code]) ∧
  OI w' w.heap.size (.slice A1 ys.length c1) ys ∧ OI w' w.heap.size (.slice A2 ns.length c2) ns ∧ Apart (.slice A1 ys.length c1) (.slice A2 ns.length c2) ∧ Below w.heap.size w w'
theorem results_cell_row2 {P : Program} {fn : Func} {p u : Tmp} {ty : TypeId} (h : fn.results = #[.cell p ty, .tmp u]) (tmps : Array Value) (w : World) (g : Nat) (t : TypeId) (cs : Array Value) (fr : Nat × Nat) (d : TypeDesc) (x : Value)
    (hp : tmps.getD p undef = .pointer (some ⟨g, 0, none⟩)) (hx : tmps.getD u undef = x) (hg : w.heap[g]? = some (.cells cs t fr))
    (hu : P.underlying ty = some d) (hd : (match d with | .struct _ | .array _ _ => true | _ => false) = true) (hi : (P.info? ty).map (·.size) = some cs.size) :
    (results fn tmps).run P w = .ok (.tuple #[.agg cs, x]) w := by
  subst hx
  rw [results_cell_tmp h, hp]
  simp [asAddr, run_loadVar_row w g t ty cs fr d hg hu hd hi, Result.andThen]
theorem oldcell {w1 u : World} {p : Addr} {v : Value} (g : Below w1.heap.size w1 u) (h : w1.cell? p = some v) : u.cell? p = some v := (g.cell (World.block_lt_of_cell? w1 p h)).trans h
/-- This block holds these cells. -/
def Rw2 (w : World) (g : Nat) (t : TypeId) (a b : Value) : Prop := w.heap[g]? = some (.cells #[a, b] t (0, 0))
theorem Rw2.c0 {w : World} {g : Nat} {t : TypeId} {a b : Value} (h : Rw2 w g t a b) : w.cell? ⟨g, 0, none⟩ = some a := by rw [cell_of_row _ _ _ _ _ _ h]; rfl
theorem Rw2.c1 {w : World} {g : Nat} {t : TypeId} {a b : Value} (h : Rw2 w g t a b) : w.cell? ⟨g, 1, none⟩ = some b := by rw [cell_of_row _ _ _ _ _ _ h]; rfl
theorem Rw2.f0 {w : World} {g : Nat} {t : TypeId} {a b : Value} (h : Rw2 w g t a b) : w.frozen? ⟨g, 0, none⟩ = false := frozen_of_row _ _ _ _ _ h
theorem Rw2.f1 {w : World} {g : Nat} {t : TypeId} {a b : Value} (h : Rw2 w g t a b) : w.frozen? ⟨g, 1, none⟩ = false := frozen_of_row _ _ _ _ _ h
theorem Rw2.lt {w : World} {g : Nat} {t : TypeId} {a b : Value} (h : Rw2 w g t a b) : g < w.heap.size := by
  rcases Nat.lt_or_ge g w.heap.size with hlt | hge
  · exact hlt
  · unfold Rw2 at h; rw [Array.getElem?_eq_none hge] at h; cases h
theorem Rw2.keep {w u : World} {g : Nat} {t : TypeId} {a b : Value} (h : Rw2 w g t a b) (k : Below w.heap.size w u) : Rw2 u g t a b := (k.block g h.lt).trans h
theorem newrow {w1 u : World} {a b : Value} {t : TypeId} (g : Below (w1.alloc (.cells #[a, b] t)).heap.size (w1.alloc (.cells #[a, b] t)) u) : Rw2 u w1.heap.size t a b := Rw2.keep (heap_alloc_new w1 _) g
theorem newrowd {w1 u : World} {a b : Value} {t : TypeId} (g : Below (w1.alloc (.cells #[a, b] t)).drew.heap.size (w1.alloc (.cells #[a, b] t)).drew u) : Rw2 u w1.heap.size t a b := Rw2.keep (w := (w1.alloc (.cells #[a, b] t)).drew) (heap_alloc_new w1 _) g
/-- Behind the making of the new dataspace: its cells and its two lists. -/
def Fin2 (w1 W : World) (g : Nat) (va vb : Value) (ds ms : List Int) : Prop := Rw2 W g 35 va vb ∧ OI W w1.heap.size va ds ∧ OI W w1.heap.size vb ms ∧ Apart va vb ∧ Below w1.heap.size w1 W ∧ w1.heap.size ≤ g
theorem apart_of {u1 u2 : World} {l1 l2 : Nat} {va vb : Value} {ds ms : List Int} (oa : OI u1 l1 va ds) (ob : OI u2 l2 vb ms) (h : u1.heap.size ≤ l2) : Apart va vb := fun g hg he => by
  have h1 := oa.wi g hg; have h2 := ob.wi g he; omega
theorem rszC {w1 u1 u2 : World} {va vb : Value} {ds ms : List Int} {l1 : Nat} (kb1 : Below w1.heap.size w1 u1) (oa : OI u1 l1 va ds) (gb : Below u1.heap.size u1 u2) (ob : OI u2 u1.heap.size vb ms) (hl : w1.heap.size ≤ l1) :
    Fin2 w1 (u2.alloc (.cells #[va, vb] 35)) u2.heap.size va vb ds ms := by
  have ga : Below u2.heap.size u2 (u2.alloc (.cells #[va, vb] 35)) := (Below.refl _ _).alloc (Nat.le_refl _) _
  exact ⟨heap_alloc_new u2 _, ((oa.bel gb).bel ga).lo hl, (ob.bel ga).lo kb1.size, apart_of oa ob (Nat.le_refl _), (kb1.trans (gb.mono kb1.size)).alloc (Nat.le_trans kb1.size gb.size) _, Nat.le_trans kb1.size gb.size⟩
theorem rszS {w1 u2 : World} {g : Nat} {va vb a b : Value} {ds ms : List Int} (kb2 : Below w1.heap.size w1 u2) (oa : OI u2 w1.heap.size va ds) (ob : OI u2 w1.heap.size vb ms) (hap : Apart va vb) (ry : Rw2 u2 g 35 a b) (hg : w1.heap.size ≤ g)
    (na : va.ownBlock ≠ some g) (nb : vb.ownBlock ≠ some g) : Fin2 w1 ((u2.setCell ⟨g, 0, none⟩ va).setCell ⟨g, 1, none⟩ vb) g va vb ds ms := by
  have hh : ∀ k, k ≠ g → ((u2.setCell ⟨g, 0, none⟩ va).setCell ⟨g, 1, none⟩ vb).heap[k]? = u2.heap[k]? := fun k hk => by
    rw [heap_setCell_other _ ⟨g, 1, none⟩ k vb (fun e => hk e), heap_setCell_other _ ⟨g, 0, none⟩ k va (fun e => hk e)]
  refine ⟨?_, oa.same fun k hk => hh k (fun e => na (e ▸ hk)), ob.same fun k hk => hh k (fun e => nb (e ▸ hk)), hap, (kb2.setCell (p := ⟨g, 0, none⟩) hg _).setCell (p := ⟨g, 1, none⟩) hg _, hg⟩
  exact heap_setCell_same _ _ _ _ _ _ (heap_setCell_same _ _ _ _ _ _ ry)
theorem rszB {w1 u1 u2 : World} {va vb a b : Value} {ds ms : List Int} {l1 : Nat} {o : Obj} (kb1 : Below w1.heap.size w1 u1) (kb2 : Below w1.heap.size w1 u2) (oa : OI u1 l1 va ds) (gb : Below (u1.alloc o).heap.size (u1.alloc o) u2) (ob : OI u2 (u1.alloc o).heap.size vb ms) (hl : w1.heap.size ≤ l1) (ry : Rw2 u2 u1.heap.size 35 a b) :
    Fin2 w1 ((u2.setCell ⟨u1.heap.size, 0, none⟩ va).setCell ⟨u1.heap.size, 1, none⟩ vb) u1.heap.size va vb ds ms := by
  have ho : Below u1.heap.size u1 (u1.alloc o) := (Below.refl _ _).alloc (Nat.le_refl _) _
  have hz : (u1.alloc o).heap.size = u1.heap.size + 1 := by simp
  refine rszS kb2 (((oa.bel ho).bel gb).lo hl) (ob.lo (by have := kb1.size; omega)) (apart_of oa ob (by omega)) ry kb1.size ?_ ?_
  · intro e; have := oa.wi _ e; omega
  · intro e; have := ob.wi _ e; omega
theorem rszA {w1 u1 u2 : World} {va vb a b : Value} {ds ms : List Int} {o : Obj} (kb1 : Below w1.heap.size w1 u1) (kb2 : Below w1.heap.size w1 u2) (oa : OI u1 (w1.alloc o).drew.heap.size va ds) (gb : Below u1.heap.size u1 u2) (ob : OI u2 u1.heap.size vb ms) (ry : Rw2 u2 w1.heap.size 35 a b) (rz : Rw2 u1 w1.heap.size 35 a b) :
    Fin2 w1 ((u2.setCell ⟨w1.heap.size, 0, none⟩ va).setCell ⟨w1.heap.size, 1, none⟩ vb) w1.heap.size va vb ds ms := by
  have hz : (w1.alloc o).drew.heap.size = w1.heap.size + 1 := by show (w1.alloc o).heap.size = _; simp
  have hlt := rz.lt
  refine rszS kb2 ((oa.bel gb).lo (by omega)) (ob.lo (by omega)) (apart_of oa ob (Nat.le_refl _)) ry (Nat.le_refl _) ?_ ?_
  · intro e; have := oa.wi _ e; omega
  · intro e; have := ob.wi _ e; omega
theorem rsz_yes {w w1 W V : World} {Aa Ab : Option Addr} {ca cb : Nat} {ds ms : List Int} {g : Nat} {cs : Array Value} (hf : Fin2 w1 W g (.slice Aa ds.length ca) (.slice Ab ms.length cb) ds ms) (hb : Below w.heap.size w w1) (hz : w.heap.size + 2 ≤ w1.heap.size) (hV : Below W.heap.size W V) :
    RszAt ds ms 0 w (.returned (.tuple #[.agg #[.slice Aa ds.length ca, .slice Ab ms.length cb], .int .i64 0])) (V.setRow (w.heap.size + 1) cs) := by
  obtain ⟨_, oa, ob, hap, hbl, _⟩ := hf
  have hWz : w1.heap.size ≤ W.heap.size := hbl.size
  have key : ∀ {v : Value} {xs : List Int}, OI W w1.heap.size v xs → OI (V.setRow (w.heap.size + 1) cs) w.heap.size v xs := fun h =>
    ((h.bel hV).same fun k hk => setRow_other V _ k cs (fun e => by have := h.wi k hk; omega)).lo (by omega)
  exact ⟨Aa, Ab, ca, cb, rfl, key oa, key ob, hap, below_setRow ((hb.trans (hbl.mono (by omega))).trans (hV.mono (by omega))) (by omega) _⟩
theorem oi_nil (w : World) (lo : Nat) : OI w lo (.slice none 0 0) [] := ⟨by simp, .inl ⟨rfl, rfl⟩⟩
theorem rsz_nil {w W : World} (code : Int) (h : Below w.heap.size w W) : RszAt [] [] code w (.returned (.tuple #[.agg #[.slice none 0 0, .slice none 0 0], .int .i64 code])) W :=
  ⟨none, none, 0, 0, rfl, oi_nil _ _, oi_nil _ _, fun g hg => by simp [Value.ownBlock] at hg, h⟩
def rszD (xs ms ds : List Int) : List Int := if spaceOk xs ms && (dimsOk ds && spaceOk ds ms) then ds else []
def rszM (xs ms ds : List Int) : List Int := if spaceOk xs ms && (dimsOk ds && spaceOk ds ms) then ms else []
def rszE (xs ms ds : List Int) : Int := if spaceOk xs ms && dimsOk ds then (if spaceOk ds ms then 0 else 2) else 1

theorem sSpace_is {B : Nat} {w : World} {v1 v2 : Value} {xs ms : List Int} {r : Bool} (hr : spaceOk xs ms = r) (h1 : Ri B w v1 xs) (h2 : Ri B w v2 ms) (hB : B ≤ w.heap.size) :
    Calls Try.prog 51 #[.agg #[v1, v2]] w (GivesB (.bool r) w) := by subst hr; exact l05Space_any h1 h2 hB
theorem sDims_is {B : Nat} {w : World} {v : Value} {xs : List Int} {r : Bool} (hr : dimsOk xs = r) (h : Ri B w v xs) : Calls Try.prog 39 #[v] w (Quiet (.bool r) w) := by subst hr; exact l05Dims_any h
set_option maxHeartbeats 1000000 in
set_option maxRecDepth 100000 in
theorem sRsz_bad {B : Nat} {w : World} {A1 A2 A3 : Option Addr} {xs ms ds : List Int} (h1 : Ri B w (.slice A1 xs.length xs.length) xs) (h2 : Ri B w (.slice A2 ms.length ms.length) ms) (h3 : Ri B w (.slice A3 ds.length ds.length) ds) (hB : B ≤ w.heap.size)
    (hbad : spaceOk xs ms = false ∨ (spaceOk xs ms = true ∧ dimsOk ds = false)) :
    Calls Try.prog 37 #[.agg #[.slice A1 xs.length xs.length, .slice A2 ms.length ms.length], .slice A3 ds.length ds.length] w (RszAt [] [] 1 w) := by
  have H1 := Lib.hid h1; have H2 := Lib.hid h2; have H3 := Lib.hid h3; clear h1 h2 h3
  have Hb0 : Hid (Below w.heap.size w ((w.alloc (.cells #[.slice A1 xs.length xs.length, .slice A2 ms.length ms.length] 35)).alloc (.cells #[.slice none 0 0, .slice none 0 0] 35))) := Lib.hid (((Below.refl _ w).alloc (Nat.le_refl _) _).alloc (by simp) _)
  have Hr0 : Hid (((w.alloc (.cells #[.slice A1 xs.length xs.length, .slice A2 ms.length ms.length] 35)).alloc (.cells #[.slice none 0 0, .slice none 0 0] 35)).heap[w.heap.size + 1]? = some (.cells #[.slice none 0 0, .slice none 0 0] 35 (0, 0))) := Lib.hid (heap_alloc2_new w _ _)
  have Hi9 : Hid ((Try.prog.info? 35).map (·.size) = some (#[.slice none 0 0, .slice none 0 0] : Array Value).size) := Lib.hid (by kernel_rfl)
  have H19 : Hid ((#[.slice none 0 0, .slice none 0 0] : Array Value).all (·.oneCell') = true) := Lib.hid (by simp [Value.oneCell'])
  rcases hbad with hs | ⟨hs, hd⟩
  · have Hs := Lib.hid hs; clear hs
    go_enter Try.func37, Try.ntmps37
    go_wp2_with fail
    refine (sSpace_is Hs.out (H1.out.at hB Hb0.out) (H2.out.at hB Hb0.out) (Nat.le_refl _)).mono ?_
    rintro e w1 ⟨rfl, g1⟩
    have Hr1 : Hid (w1.heap[w.heap.size + 1]? = some (.cells #[.slice none 0 0, .slice none 0 0] 35 (0, 0))) := Lib.hid ((g1.block _ (by simp)).trans Hr0.out)
    have Hb1 : Hid (Below w.heap.size w w1) := Lib.hid (Hb0.out.trans (g1.mono (by simp; omega)))
    clear g1
    go_wp2_with (refine wpList_store_row rfl 35 (.tmp 4) (.tmp 15) rfl (w.heap.size + 1) #[.slice none 0 0, .slice none 0 0] rfl rfl 35 _ Hr1.out Hi9.out rfl H19.out ?_)
    refine bodyPost_ret (v := .tuple #[.agg #[.slice none 0 0, .slice none 0 0], .int .i64 1]) ?h1 ?h2 ?h3
    case h2 => rfl
    case h1 => exact results_cell_row2 rfl _ _ (w.heap.size + 1) 35 _ (0, 0) _ _ rfl rfl (setRow_heap _ _ _ _ _ _ Hr1.out) Try.underlying35 rfl (by kernel_rfl)
    case h3 => exact rsz_nil 1 (below_setRow Hb1.out (by omega) _)
  · have Hs := Lib.hid hs; have Hd := Lib.hid hd; clear hs hd
    go_enter Try.func37, Try.ntmps37
    go_wp2_with fail
    refine (sSpace_is Hs.out (H1.out.at hB Hb0.out) (H2.out.at hB Hb0.out) (Nat.le_refl _)).mono ?_
    rintro e w1 ⟨rfl, g1⟩
    have Hr1 : Hid (w1.heap[w.heap.size + 1]? = some (.cells #[.slice none 0 0, .slice none 0 0] 35 (0, 0))) := Lib.hid ((g1.block _ (by simp)).trans Hr0.out)
    have Hb1 : Hid (Below w.heap.size w w1) := Lib.hid (Hb0.out.trans (g1.mono (by simp; omega)))
    clear g1
    go_wp2_with fail
    refine (sDims_is Hd.out (H3.out.at hB Hb1.out)).mono ?_
    rintro e w2 ⟨rfl, rfl⟩
    go_wp2_with (refine wpList_store_row rfl 35 (.tmp 4) (.tmp 15) rfl (w.heap.size + 1) #[.slice none 0 0, .slice none 0 0] rfl rfl 35 _ Hr1.out Hi9.out rfl H19.out ?_)
    refine bodyPost_ret (v := .tuple #[.agg #[.slice none 0 0, .slice none 0 0], .int .i64 1]) ?h1 ?h2 ?h3
    case h2 => rfl
    case h1 => exact results_cell_row2 rfl _ _ (w.heap.size + 1) 35 _ (0, 0) _ _ rfl rfl (setRow_heap _ _ _ _ _ _ Hr1.out) Try.underlying35 rfl (by kernel_rfl)
    case h3 => exact rsz_nil 1 (below_setRow Hb1.out (by omega) _)

theorem sCl_any {B : Nat} {w : World} {A : Option Addr} {xs : List Int} (h : Ri B w (.slice A xs.length xs.length) xs) (hB : B ≤ w.heap.size) (hs : xs.length ≤ 1048576) :
    Calls Try.prog 60 #[.slice A xs.length xs.length] w fun e w' => ∃ A1 c1, e = .returned (.slice A1 xs.length c1) ∧ OI w' w.heap.size (.slice A1 xs.length c1) xs ∧ Below w.heap.size w w' :=
  (l00Own_any h hB hs).mono fun e w' ⟨v, he, ho, hb⟩ => by
    obtain ⟨A1, c1, rfl⟩ := ho.sl
    exact ⟨A1, c1, he, ho, hb⟩
set_option maxHeartbeats 1000000 in
set_option maxRecDepth 100000 in
theorem sRsz_good {B : Nat} {w : World} {A1 A2 A3 : Option Addr} {xs ms ds : List Int} (h1 : Ri B w (.slice A1 xs.length xs.length) xs) (h2 : Ri B w (.slice A2 ms.length ms.length) ms) (h3 : Ri B w (.slice A3 ds.length ds.length) ds) (hB : B ≤ w.heap.size)
    (hs : spaceOk xs ms = true) (hd : dimsOk ds = true) (hm : ms.length ≤ 1048576) (hn : ds.length ≤ 1048576) :
    Calls Try.prog 37 #[.agg #[.slice A1 xs.length xs.length, .slice A2 ms.length ms.length], .slice A3 ds.length ds.length] w fun e w' =>
      (spaceOk ds ms = true → RszAt ds ms 0 w e w') ∧ (spaceOk ds ms = false → RszAt [] [] 2 w e w') := by
  have H1 := Lib.hid h1; have H2 := Lib.hid h2; have H3 := Lib.hid h3; clear h1 h2 h3
  have Hb0 : Hid (Below w.heap.size w ((w.alloc (.cells #[.slice A1 xs.length xs.length, .slice A2 ms.length ms.length] 35)).alloc (.cells #[.slice none 0 0, .slice none 0 0] 35))) := Lib.hid (((Below.refl _ w).alloc (Nat.le_refl _) _).alloc (by simp) _)
  have Hr0 : Hid (((w.alloc (.cells #[.slice A1 xs.length xs.length, .slice A2 ms.length ms.length] 35)).alloc (.cells #[.slice none 0 0, .slice none 0 0] 35)).heap[w.heap.size + 1]? = some (.cells #[.slice none 0 0, .slice none 0 0] 35 (0, 0))) := Lib.hid (heap_alloc2_new w _ _)
  have Hc0 : Hid (((w.alloc (.cells #[.slice A1 xs.length xs.length, .slice A2 ms.length ms.length] 35)).alloc (.cells #[.slice none 0 0, .slice none 0 0] 35)).cell? ⟨w.heap.size, 1, none⟩ = some (.slice A2 ms.length ms.length)) := Lib.hid (by rw [cell_of_row _ _ _ _ _ _ (heap_alloc2_old w _ _)]; rfl)
  have Hs := Lib.hid hs; have Hd := Lib.hid hd; clear hs hd
  go_enter Try.func37, Try.ntmps37
  go_wp2_with fail
  refine (sSpace_is Hs.out (H1.out.at hB Hb0.out) (H2.out.at hB Hb0.out) (Nat.le_refl _)).mono ?_
  rintro e w1 ⟨rfl, g1⟩
  have Hr1 : Hid (w1.heap[w.heap.size + 1]? = some (.cells #[.slice none 0 0, .slice none 0 0] 35 (0, 0))) := Lib.hid ((g1.block _ (by simp)).trans Hr0.out)
  have Hc1 : Hid (w1.cell? ⟨w.heap.size, 1, none⟩ = some (.slice A2 ms.length ms.length)) := Lib.hid ((g1.cell (p := ⟨w.heap.size, 1, none⟩) (by simp; omega)).trans Hc0.out)
  have Hz1 : Hid (w.heap.size + 2 ≤ w1.heap.size) := Lib.hid (by have := g1.size; simp at this; omega)
  have Hb1 : Hid (Below w.heap.size w w1) := Lib.hid (Hb0.out.trans (g1.mono (by simp; omega)))
  clear g1
  go_wp2_with fail
  refine (sDims_is Hd.out (H3.out.at hB Hb1.out)).mono ?_
  rintro e w2 ⟨rfl, rfl⟩
  have HS : Hid (∀ W, Below w1.heap.size w1 W → W.cell? ⟨w.heap.size, 1, none⟩ = some (.slice A2 ms.length ms.length)) := Lib.hid (fun W g => (g.cell (p := ⟨w.heap.size, 1, none⟩) (show w.heap.size < _ by have := Hz1.out; omega)).trans Hc1.out)
  have q1 := Hc1.out
  go_wp2
  clear q1
  have HD : Hid (Below w1.heap.size w1 w1.drew) := Lib.hid (Below.refl _ _).drew
  have HA : Hid (Below w1.heap.size w1 (w1.alloc (.cells #[.slice none 0 0, .slice none 0 0] 35)).drew) := Lib.hid ((Below.refl _ _).alloc (Nat.le_refl _) _).drew
  go_region_held3 (fun W => W.cell? ⟨w.heap.size, 1, none⟩ = some (.slice A2 ms.length ms.length)) (exact HS.out _ (by first | exact kb2 | exact kb1 | exact HD.out | exact HA.out | exact kb1.alloc kb1.size _ | exact kb2.alloc kb2.size _ | exact (kb2.setCell (by first | exact Nat.le_refl _ | exact kb1.size) _).setCell (by first | exact Nat.le_refl _ | exact kb1.size) _))
    ((first | (go_at_call 60; go_fit (sCl_any (H3.out.at hB (Hb1.out.trans (HD.out.mono Hb1.out.size))) (Nat.le_refl _) hn); rintro e u1 ⟨Aa, ca, rfl, oa, ga⟩; have Oa := Lib.hid oa; clear oa; have kb1 : Below w1.heap.size w1 u1 := HD.out.trans (ga.mono HD.out.size)) | (go_at_call 60; go_fit (sCl_any (H2.out.at hB (Hb1.out.trans (kb1.mono Hb1.out.size))) (Nat.le_refl _) hm); rintro e u2 ⟨Ab, cb, rfl, ob, gb⟩; have Ob := Lib.hid ob; clear ob; have kb2 : Below w1.heap.size w1 u2 := kb1.trans (gb.mono kb1.size); try (have ry := rz.keep gb; have y0 := ry.c0; have y1 := ry.c1; have y2 := ry.f0; have y3 := ry.f1)) | (go_at_call 60; go_fit (sCl_any (H2.out.at hB (Hb1.out.trans ((kb1.alloc kb1.size _).mono Hb1.out.size))) (Nat.le_refl _) hm); rintro e u2 ⟨Ab, cb, rfl, ob, gb⟩; have Ob := Lib.hid ob; clear ob; have kb2 : Below w1.heap.size w1 u2 := (kb1.alloc kb1.size _).trans (gb.mono (by simp; exact Nat.le_succ_of_le kb1.size)); have ry := newrow gb; have y0 := ry.c0; have y1 := ry.c1; have y2 := ry.f0; have y3 := ry.f1) | (go_at_call 60; go_fit (sCl_any (H3.out.at hB (Hb1.out.trans (HA.out.mono Hb1.out.size))) (Nat.le_refl _) hn); rintro e u1 ⟨Aa, ca, rfl, oa, ga⟩; have Oa := Lib.hid oa; clear oa; have kb1 : Below w1.heap.size w1 u1 := HA.out.trans (ga.mono HA.out.size); have rz := newrowd ga; have z0 := rz.c0; have z1 := rz.c1)))
  all_goals
    first | (have F2 := Lib.hid (rszA kb1 kb2 Oa.out gb Ob.out ry rz); generalize ((u2.setCell ⟨w1.heap.size, 0, none⟩ (.slice Aa ds.length ca)).setCell ⟨w1.heap.size, 1, none⟩ (.slice Ab ms.length cb)) = W at F2 ⊢; generalize w1.heap.size = g6 at F2 ⊢) | (have F2 := Lib.hid (rszB kb1 kb2 Oa.out gb Ob.out (Nat.le_refl _) ry); generalize ((u2.setCell ⟨u1.heap.size, 0, none⟩ (.slice Aa ds.length ca)).setCell ⟨u1.heap.size, 1, none⟩ (.slice Ab ms.length cb)) = W at F2 ⊢; generalize u1.heap.size = g6 at F2 ⊢) | (have F2 := Lib.hid (rszC kb1 Oa.out gb Ob.out (Nat.le_refl _)); generalize (u2.alloc (.cells #[.slice Aa ds.length ca, .slice Ab ms.length cb] 35)) = W at F2 ⊢; generalize u2.heap.size = g6 at F2 ⊢)
    have HrW : Hid (W.heap[w.heap.size + 1]? = some (.cells #[.slice none 0 0, .slice none 0 0] 35 (0, 0))) := Lib.hid ((F2.out.2.2.2.2.1.block _ (by have := Hz1.out; omega)).trans Hr1.out)
    have HbW : Hid (Below w.heap.size w W) := Lib.hid (Hb1.out.trans (F2.out.2.2.2.2.1.mono Hb1.out.size))
    have HzW : Hid (w.heap.size + 2 ≤ W.heap.size) := Lib.hid (Nat.le_trans Hz1.out F2.out.2.2.2.2.1.size)
    have RA := Lib.hid (F2.out.2.1.ri H3.out.inI)
    have RB := Lib.hid (F2.out.2.2.1.ri H2.out.inI)
    have c60 := F2.out.1.c0; have c61 := F2.out.1.c1
    clear kb1 kb2 gb ga
    try clear y0 y1 y2 y3
    try clear z0 z1
    try clear ry
    try clear rz
    try simp only [Exit.then]
    cases hsp : spaceOk ds ms
    · have Hsp := Lib.hid hsp; clear hsp
      have Hi9 : Hid ((Try.prog.info? 35).map (·.size) = some (#[.slice none 0 0, .slice none 0 0] : Array Value).size) := Lib.hid (by kernel_rfl)
      have H19 : Hid ((#[.slice none 0 0, .slice none 0 0] : Array Value).all (·.oneCell') = true) := Lib.hid (by simp [Value.oneCell'])
      go_wp2_with fail
      refine (sSpace_is Hsp.out RA.out RB.out (Nat.le_refl _)).mono ?_
      rintro e w4 ⟨rfl, g4⟩
      have Hr4 : Hid (w4.heap[w.heap.size + 1]? = some (.cells #[.slice none 0 0, .slice none 0 0] 35 (0, 0))) := Lib.hid ((g4.block _ (by have := HzW.out; omega)).trans HrW.out)
      have Hb4 : Hid (Below w.heap.size w w4) := Lib.hid (HbW.out.trans (g4.mono HbW.out.size))
      clear g4 c60 c61
      go_wp2_with (refine wpList_store_row rfl 35 (.tmp 4) (.tmp 25) rfl (w.heap.size + 1) #[.slice none 0 0, .slice none 0 0] rfl rfl 35 _ Hr4.out Hi9.out rfl H19.out ?_)
      refine bodyPost_ret (v := .tuple #[.agg #[.slice none 0 0, .slice none 0 0], .int .i64 2]) ?h1 ?h2 ?h3
      case h2 => rfl
      case h1 => exact results_cell_row2 rfl _ _ (w.heap.size + 1) 35 _ (0, 0) _ _ rfl rfl (setRow_heap _ _ _ _ _ _ Hr4.out) Try.underlying35 rfl (by kernel_rfl)
      case h3 => exact ⟨fun h => absurd (Hsp.out.symm.trans h) (by decide), fun _ => rsz_nil 2 (below_setRow Hb4.out (by omega) _)⟩
    · have Hsp := Lib.hid hsp; clear hsp
      have Hi9 : Hid ((Try.prog.info? 35).map (·.size) = some (#[.slice Aa ds.length ca, .slice Ab ms.length cb] : Array Value).size) := Lib.hid (by kernel_rfl)
      have H19 : Hid ((#[.slice Aa ds.length ca, .slice Ab ms.length cb] : Array Value).all (·.oneCell') = true) := Lib.hid (by simp [Value.oneCell'])
      go_wp2_with fail
      refine (sSpace_is Hsp.out RA.out RB.out (Nat.le_refl _)).mono ?_
      rintro e w4 ⟨rfl, g4⟩
      have Hr4 : Hid (w4.heap[w.heap.size + 1]? = some (.cells #[.slice none 0 0, .slice none 0 0] 35 (0, 0))) := Lib.hid ((g4.block _ (by have := HzW.out; omega)).trans HrW.out)
      have G4 := Lib.hid g4
      have d60 := oldcell g4 c60; have d61 := oldcell g4 c61
      clear g4 c60 c61
      go_wp2_with (refine wpList_store_row rfl 35 (.tmp 4) (.tmp 26) rfl (w.heap.size + 1) #[.slice Aa ds.length ca, .slice Ab ms.length cb] rfl rfl 35 _ Hr4.out Hi9.out rfl H19.out ?_)
      refine bodyPost_ret (v := .tuple #[.agg #[.slice Aa ds.length ca, .slice Ab ms.length cb], .int .i64 0]) ?h1 ?h2 ?h3
      case h2 => rfl
      case h1 => exact results_cell_row2 rfl _ _ (w.heap.size + 1) 35 _ (0, 0) _ _ rfl rfl (setRow_heap _ _ _ _ _ _ Hr4.out) Try.underlying35 rfl (by kernel_rfl)
      case h3 => exact ⟨fun _ => rsz_yes F2.out Hb1.out Hz1.out G4.out, fun h => absurd (Hsp.out.symm.trans h) (by decide)⟩

theorem sResize_any {B : Nat} {w : World} {A1 A2 A3 : Option Addr} {xs ms ds : List Int} (h1 : Ri B w (.slice A1 xs.length xs.length) xs) (h2 : Ri B w (.slice A2 ms.length ms.length) ms) (h3 : Ri B w (.slice A3 ds.length ds.length) ds) (hB : B ≤ w.heap.size)
    (hm : ms.length ≤ 1048576) (hn : ds.length ≤ 1048576) :
    Calls Try.prog 37 #[.agg #[.slice A1 xs.length xs.length, .slice A2 ms.length ms.length], .slice A3 ds.length ds.length] w (RszAt (rszD xs ms ds) (rszM xs ms ds) (rszE xs ms ds) w) := by
  cases hs : spaceOk xs ms
  · exact (sRsz_bad h1 h2 h3 hB (.inl hs)).mono fun e w' h => by simpa [rszD, rszM, rszE, hs] using h
  cases hd : dimsOk ds
  · exact (sRsz_bad h1 h2 h3 hB (.inr ⟨hs, hd⟩)).mono fun e w' h => by simpa [rszD, rszM, rszE, hs, hd] using h
  refine (sRsz_good h1 h2 h3 hB hs hd hm hn).mono fun e w' h => ?_
  cases hr : spaceOk ds ms
  · simpa [rszD, rszM, rszE, hs, hd, hr] using h.2 hr
  · simpa [rszD, rszM, rszE, hs, hd, hr] using h.1 hr
end Go.Proofs.Ytmnmjepppghnlaa
