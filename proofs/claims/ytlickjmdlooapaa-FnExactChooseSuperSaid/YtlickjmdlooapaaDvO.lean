/- The contract of the program's driveOf. No statement is proved here. -/
import Derived.Test.YtlickjmdlooapaaNdI
import Derived.Test.YtlickjmdlooapaaVdI
import Derived.Test.YtlickjmdlooapaaDkO
import Derived.Lib.BufferWrite
import Derived.Lib.SlBuf
namespace Go.Proofs.Ytlickjmdlooapaa
open Go.RowKit
set_option linter.unusedVariables false
/-- A copy of pairs in new memory. -/
def MadeU (ps : List Pt) (w : World) (e : Ending) (w' : World) : Prop := ∃ A m c, e = .returned (.slice A m c) ∧ OU w' w.heap.size (.slice A m c) ps ∧ Below w.heap.size w w'
theorem eqlU_none (w : World) (n c : Nat) : Sem.run Try.prog (binOp BinOp.eql 36 (Value.slice none n c) (Value.slice none 0 0)) w = .ok (.bool true) w := by kernel_rfl
theorem eqlU_some (w : World) (ad : Addr) (n c : Nat) : Sem.run Try.prog (binOp BinOp.eql 36 (Value.slice (some ad) n c) (Value.slice none 0 0)) w = .ok (.bool false) w := by kernel_rfl
set_option maxHeartbeats 400000 in
theorem cloneU_any {B : Nat} {w : World} {v : Value} {ps : List Pt} (h : RiU B w v ps) (hB : B ≤ w.heap.size) (hs : ps.length ≤ 1048576) :
    Calls Try.prog 208 #[v] w (MadeU ps w) := by
  obtain ⟨A1, cap, rfl, hl, hm, hx⟩ := h
  clear hl hm
  obtain ⟨i0, hi, hz0, hz1, hz2⟩ := info_parts infoUz
  have Hown : Hid ((w.alloc (.cells #[] 238)).ownsRow w.heap.size 238 2 (.slice (some ⟨w.heap.size, 0, none⟩) 0 0) 0 []) := Lib.hid (World.ownsRow_made w #[] 0 (Nat.le_refl _) (by decide) (by simp))
  cases A1 with
  | none =>
    have h0 : ps = [] := by
      rcases ps with _ | ⟨x, l⟩
      · rfl
      · obtain ⟨b, o, hA, _⟩ := hx 0 (by simp); cases hA
    subst h0
    clear hx
    have hq := eqlU_none
    go_enter Try.func208, Try.ntmps208
    go_wp2
    go_ret
    exact ⟨_, _, _, rfl, ou_none _ _, Below.refl _ w⟩
  | some ad =>
    have Hc : Hid (∀ j u, (flatP ps)[j]? = some u → (w.alloc (.cells #[] 238)).cell? (ad.add j) = some u) := Lib.hid (fun j u hu => by
      have hj : j < ps.length * 2 := by
        rcases Nat.lt_or_ge j (ps.length * 2) with hl | hl
        · exact hl
        · rw [List.getElem?_eq_none (by rw [flatP_len]; exact hl)] at hu; cases hu
      obtain ⟨b, o', hA, hb, hc1, hc2, _⟩ := hx (j / 2) (by omega)
      obtain ⟨f1, f2⟩ := flatP_at ps (j / 2) (by omega)
      cases hA
      rw [add_at, World.cell?_alloc_lt w _ _ (by simp only; omega)]
      rcases Nat.mod_two_eq_zero_or_one j with hm | hm
      · have e : j / 2 * 2 = j := by omega
        rw [e] at f1 hc1
        rw [f1] at hu
        rw [← Option.some.inj hu]; exact hc1
      · have e : j / 2 * 2 + 1 = j := by omega
        have e' : o' + j / 2 * 2 + 1 = o' + j := by omega
        rw [e] at f2
        rw [e'] at hc2
        rw [f2] at hu
        rw [← Option.some.inj hu]; exact hc2)
    have H1c : Hid (∀ u ∈ flatP ps, u.oneCell' = true) := Lib.hid (fun u hu => flatP_one ps u hu)
    clear hx
    have hq := fun w n c => eqlU_some w ad n c
    go_enter Try.func208, Try.ntmps208
    go_wp2_with (refine wpList_append_own _ rfl (.tmp 5) (.tmp 6) 36 rfl w.heap.size 238 i0 (.agg #[.int .i64 0, .string ⟨#[]⟩]) 2 24 Try.underlying36 hi hz0 hz1 hz2 rfl (by decide) (.slice (some ⟨w.heap.size, 0, none⟩) 0 0) 0 [] rfl Hown.out ad ps.length cap (flatP ps) rfl (flatP_len _) Hc.out H1c.out (by unfold maxLen; omega) (by omega) (by simp) ?_; intro v2 w2 hown2 hg2 hnil2)
    have ho : OU w2 w.heap.size v2 ps := by unfold OU; simpa using hown2
    obtain ⟨A, m, c, rfl⟩ := OU.slv ho
    have Ho := Lib.hid ho; clear ho hown2
    go_ret
    refine ⟨A, m, c, rfl, Ho.out, ?_⟩
    exact ((Below.refl _ w).alloc (Nat.le_refl _) _).grown hg2 (by simp) (fun k hk => by simp [Value.ownBlock] at hk; omega)
/-- Cells over which some bytes have gone. -/
def putC (C : Array Value) (o : Nat) (l : List UInt8) : Array Value := (C.toList.take o ++ Lib.byteCells l ++ C.toList.drop (o + l.length)).toArray
theorem putC_size (C : Array Value) (o : Nat) (l : List UInt8) (h : o + l.length ≤ C.size) : (putC C o l).size = C.size := by
  simp [putC, Lib.byteCells]; omega
theorem putC_in (C : Array Value) (o : Nat) (l : List UInt8) (h : o + l.length ≤ C.size) (j : Nat) (hj : j < l.length) : (putC C o l)[o + j]? = some (.int .u8 (l[j].toNat : Int)) := by
  have h1 : (C.toList.take o).length = o := by simp; omega
  have h2 : (Lib.byteCells l).length = l.length := by simp [Lib.byteCells]
  rw [putC, List.getElem?_toArray, List.append_assoc, List.getElem?_append_right (by omega), List.getElem?_append_left (by omega)]
  rw [h1, show o + j - o = j by omega]
  simp [Lib.byteCells, hj]
theorem putC_out (C : Array Value) (o : Nat) (l : List UInt8) (h : o + l.length ≤ C.size) (i : Nat) (hi : i < o ∨ o + l.length ≤ i) : (putC C o l)[i]? = C[i]? := by
  have h1 : (C.toList.take o).length = o := by simp; omega
  have h2 : (Lib.byteCells l).length = l.length := by simp [Lib.byteCells]
  rw [putC, List.getElem?_toArray]
  rcases hi with hi | hi
  · rw [List.append_assoc, List.getElem?_append_left (by omega), List.getElem?_take_of_lt hi, Array.getElem?_toList]
  · rw [List.getElem?_append_right (by rw [List.length_append]; omega), List.getElem?_drop, List.length_append, h1, h2, show o + l.length + (i - (o + l.length)) = i by omega, Array.getElem?_toList]
/-- A drive whose first k sectors are filled. -/
structure DrvK (w : World) (lo D S k : Nat) (v2 : Value) (ss : List ByteArray) (ps : List Pt) (fz : Int) (off : Bool) : Prop where
  box : VB w D (.slice (some ⟨S, 0, none⟩) ss.length ss.length) v2 fz off
  sec : ∃ C : Array Value, w.heap[S]? = some (.cells C 251 (0, 0)) ∧ C.size = ss.length * 64 ∧ ∀ i (hi : i < ss.length), i < k → ss[i].size = 64 ∧ ∀ j (hj : j < ss[i].size), C[i * 64 + j]? = some (.int .u8 (ss[i][j].toNat : Int))
  pend : OU w lo v2 ps
  loD : lo ≤ D
  loS : lo ≤ S
  ne : S ≠ D
theorem VB.setRow {w : World} {g S : Nat} {v1 v2 : Value} {fz : Int} {off : Bool} (h : VB w g v1 v2 fz off) (hne : S ≠ g) (cs : Array Value) : VB (w.setRow S cs) g v1 v2 fz off := (setRow_other w S g cs (fun e => hne e.symm)).trans h
theorem bytes_list (s : ByteArray) (j : Nat) (h : j < s.size) : s.data.toList[j]'(by simpa using h) = s[j] := by simp; rfl
/-- The next sector is filled. -/
theorem DrvK.put {w : World} {lo D S k : Nat} {v2 : Value} {ss : List ByteArray} {ps : List Pt} {fz : Int} {off : Bool} (h : DrvK w lo D S k v2 ss ps fz off) (hk : k < ss.length) (h64 : ss[k].size = 64) {C : Array Value} (hC : w.heap[S]? = some (.cells C 251 (0, 0))) :
    C.size = ss.length * 64 ∧ DrvK (w.setRow S (putC C (k * 64) ss[k].data.toList)) lo D S (k + 1) v2 ss ps fz off := by
  obtain ⟨C', hC', hz, hall⟩ := h.sec
  rw [hC] at hC'
  obtain rfl : C = C' := by cases hC'; rfl
  have hl : ss[k].data.toList.length = 64 := by rw [← h64]; simp
  have hb : k * 64 + ss[k].data.toList.length ≤ C.size := by rw [hl, hz]; omega
  refine ⟨hz, h.box.setRow h.ne _, ⟨_, setRow_heap _ _ _ _ _ _ hC, by rw [putC_size _ _ _ hb, hz], fun i hi hik => ?_⟩, own_same h.pend fun q hq => setRow_other _ _ q _ (fun e => ?_), h.loD, h.loS, h.ne⟩
  · by_cases e : i = k
    · subst e
      refine ⟨h64, fun j hj => ?_⟩
      rw [putC_in _ _ _ hb j (by rw [hl]; omega), bytes_list _ _ hj]
    · obtain ⟨a, b⟩ := hall i hi (by omega)
      refine ⟨a, fun j hj => ?_⟩
      rw [putC_out _ _ _ hb _ (.inl (by omega))]
      exact b j hj
  · subst e
    rcases h.pend.2 with ⟨e1, _⟩ | ⟨g, cap, cur, rfl, _, hg, _⟩
    · rw [e1] at hq; simp [Value.ownBlock] at hq
    · simp only [Value.ownBlock, Option.some.injEq] at hq
      subst hq
      rw [hC] at hg
      cases hg
/-- A drive of a valid disk, or none. -/
def DrvAt (ss : List ByteArray) (ps : List Pt) (fz : Int) (off : Bool) (w : World) (e : Ending) (w' : World) : Prop :=
  (dskOk ss ps fz = false ∧ e = .returned (.tuple #[.pointer none, .bool false]) ∧ Below w.heap.size w w') ∨
  (dskOk ss ps fz = true ∧ ∃ D S A m c, e = .returned (.tuple #[.pointer (some ⟨D, 0, none⟩), .bool true]) ∧ Drv w' w.heap.size D S (.slice A m c) ss ps fz off ∧ Below w.heap.size w w')
theorem drvA {w w1 u1 : World} {C : Array Value} {v : Value} {ss : List ByteArray} {ps : List Pt} {fz : Int} {off : Bool} (hb1 : Below w.heap.size w w1) (hC : C.size = ss.length * 64) (oa : OU u1 (w1.drew.alloc (.cells C 251)).heap.size v ps) (ga : Below (w1.drew.alloc (.cells C 251)).heap.size (w1.drew.alloc (.cells C 251)) u1) :
    DrvK (u1.alloc (.cells #[.slice (some ⟨w1.heap.size, 0, none⟩) ss.length ss.length, v, .int .i64 fz, .bool off] 202)) w.heap.size u1.heap.size w1.heap.size 0 v ss ps fz off ∧ Below w.heap.size w (u1.alloc (.cells #[.slice (some ⟨w1.heap.size, 0, none⟩) ss.length ss.length, v, .int .i64 fz, .bool off] 202)) ∧ (∀ {g : Nat} {a b : Value} {f : Int} {o : Bool}, DB w1 g a b f o → DB (u1.alloc (.cells #[.slice (some ⟨w1.heap.size, 0, none⟩) ss.length ss.length, v, .int .i64 fz, .bool off] 202)) g a b f o) := by
  have hz : (w1.drew.alloc (.cells C 251)).heap.size = w1.heap.size + 1 := World.size_alloc w1.drew _
  have hr : (w1.drew.alloc (.cells C 251)).heap[w1.heap.size]? = some (.cells C 251 (0, 0)) := heap_alloc_new w1.drew _
  have h1 := hb1.size
  have h2 := ga.size
  have hu : u1.heap[w1.heap.size]? = some (.cells C 251 (0, 0)) := (ga.block _ (by omega)).trans hr
  have hb : Below w1.heap.size w1 u1 := ((Below.refl _ w1).drew.alloc (show w1.heap.size ≤ w1.heap.size from Nat.le_refl _) _).trans (ga.mono (by omega))
  refine ⟨⟨heap_alloc_new u1 _, ⟨C, (heap_alloc_old _ _ (by omega)).trans hu, hC, fun i hi h => absurd h (by omega)⟩, own_lo (own_bel oa ((Below.refl _ u1).alloc (Nat.le_refl _) _)) (by omega), by omega, h1, by omega⟩, hb1.trans ((hb.alloc hb.size _).mono h1), fun h => h.keep (hb.alloc hb.size _)⟩
theorem drvB {w w1 u1 : World} {C : Array Value} {v : Value} {ss : List ByteArray} {ps : List Pt} {fz : Int} {off : Bool} (hb1 : Below w.heap.size w w1) (hC : C.size = ss.length * 64) (oa : OU u1 w1.drew.heap.size v ps) (ga : Below w1.drew.heap.size w1.drew u1) :
    DrvK ((u1.alloc (.cells C 251)).alloc (.cells #[.slice (some ⟨u1.heap.size, 0, none⟩) ss.length ss.length, v, .int .i64 fz, .bool off] 202)) w.heap.size (u1.heap.size + 1) u1.heap.size 0 v ss ps fz off ∧ Below w.heap.size w ((u1.alloc (.cells C 251)).alloc (.cells #[.slice (some ⟨u1.heap.size, 0, none⟩) ss.length ss.length, v, .int .i64 fz, .bool off] 202)) ∧ (∀ {g : Nat} {a b : Value} {f : Int} {o : Bool}, DB w1 g a b f o → DB ((u1.alloc (.cells C 251)).alloc (.cells #[.slice (some ⟨u1.heap.size, 0, none⟩) ss.length ss.length, v, .int .i64 fz, .bool off] 202)) g a b f o) := by
  have h1 := hb1.size
  have h2 : w1.heap.size ≤ u1.heap.size := ga.size
  have hz : (u1.alloc (.cells C 251)).heap.size = u1.heap.size + 1 := by simp
  have hb : Below w1.heap.size w1 u1 := (Below.refl _ w1).drew.trans ga
  refine ⟨⟨by rw [← hz]; exact heap_alloc_new _ _, ⟨C, (heap_alloc_old _ _ (by omega)).trans (heap_alloc_new u1 _), hC, fun i hi h => absurd h (by omega)⟩, own_lo (own_bel oa (((Below.refl _ u1).alloc (Nat.le_refl _) _).alloc (by omega) _)) (show w.heap.size ≤ w1.heap.size from h1), by omega, by omega, by omega⟩, hb1.trans (((hb.alloc hb.size _).alloc (by omega) _).mono h1), fun h => h.keep ((hb.alloc hb.size _).alloc (by omega) _)⟩
set_option maxHeartbeats 2000000 in
set_option maxRecDepth 100000 in
theorem driveOf_any {B : Nat} {w : World} {v1 v2 : Value} {ss : List ByteArray} {ps : List Pt} {fz : Int} {off : Bool} (h1 : RiT B w v1 ss) (h2 : RiU B w v2 ps) (hB : B ≤ w.heap.size) :
    Calls Try.prog 145 #[.agg #[v1, v2, .int .i64 fz, .bool off]] w (DrvAt ss ps fz off w) := by
  have H1 := Lib.hid h1; obtain ⟨A1, c1, rfl, hl1, hm1, hx1⟩ := h1
  have H2 := Lib.hid h2; obtain ⟨A2, c2, rfl, -, -, -⟩ := h2
  have Hx1 := Lib.hid hx1; clear hx1
  unfold maxLen at hm1
  have Hb0 : Hid (Below w.heap.size w (w.alloc (.cells #[.slice A1 ss.length c1, .slice A2 ps.length c2, .int .i64 fz, .bool off] 38))) := Lib.hid ((Below.refl _ w).alloc (Nat.le_refl _) _)
  have HD0 : Hid (DB (w.alloc (.cells #[.slice A1 ss.length c1, .slice A2 ps.length c2, .int .i64 fz, .bool off] 38)) w.heap.size (.slice A1 ss.length c1) (.slice A2 ps.length c2) fz off) := Lib.hid (heap_alloc_new w _)
  go_enter Try.func145, Try.ntmps145
  go_wp2_with fail
  generalize (w.alloc (.cells #[.slice A1 ss.length c1, .slice A2 ps.length c2, .int .i64 fz, .bool off] 38)) = w0 at *
  refine (implValidDisk_any (H1.out.at hB Hb0.out) (H2.out.at hB Hb0.out) (Nat.le_refl _)).mono ?_
  rintro e w1 ⟨rfl, g⟩
  have Hb1 : Hid (Below w.heap.size w w1) := Lib.hid (Hb0.out.trans (g.mono Hb0.out.size))
  have HD1 := Lib.hid (HD0.out.keep g)
  clear g
  cases hr : dskOk ss ps fz
  · have Hr := Lib.hid hr; clear hr
    go_wp2_with fail
    go_ret2
    exact .inl ⟨Hr.out, rfl, Hb1.out⟩
  have Hr := Lib.hid hr
  obtain ⟨hs16, hs256, hp600, -, -, hok, -⟩ := dskOk_iff.1 hr
  have Hok : Hid (∀ i (hi : i < ss.length), ss[i].size = 64) := Lib.hid (fun i hi => by
    have := allTo_at hok hi
    rw [bkAt_at ss i hi] at this
    exact of_decide_eq_true this)
  clear hr hok
  obtain ⟨C, hC, hCz, hmk⟩ := make_sec ss.length (by omega)
  have HC := Lib.hid hC; clear hC hCz
  go_wp2_with fail
  have HD : Hid (Below w1.heap.size w1 w1.drew) := Lib.hid (Below.refl _ w1).drew
  have HS : Hid (∀ W, Below w1.heap.size w1 W → W.cell? ⟨w.heap.size, 0, none⟩ = some (.slice A1 ss.length c1) ∧ W.cell? ⟨w.heap.size, 1, none⟩ = some (.slice A2 ps.length c2) ∧ W.cell? ⟨w.heap.size, 2, none⟩ = some (.int .i64 fz) ∧ W.cell? ⟨w.heap.size, 3, none⟩ = some (.bool off)) := Lib.hid (fun W hW => ⟨(HD1.out.keep hW).c0, (HD1.out.keep hW).c1, (HD1.out.keep hW).c2, (HD1.out.keep hW).c3⟩)
  go_region_held3 (fun W => W.cell? ⟨w.heap.size, 0, none⟩ = some (.slice A1 ss.length c1) ∧ W.cell? ⟨w.heap.size, 1, none⟩ = some (.slice A2 ps.length c2) ∧ W.cell? ⟨w.heap.size, 2, none⟩ = some (.int .i64 fz) ∧ W.cell? ⟨w.heap.size, 3, none⟩ = some (.bool off)) (exact HS.out _ (by first | exact kb1 | exact HD.out | exact HD.out.alloc HD.out.size _ | exact kb1.alloc kb1.size _ | exact (kb1.alloc kb1.size _).alloc (kb1.alloc kb1.size _).size _))
    ((first | (go_at_call 208; go_fit (cloneU_any (H2.out.at hB (Hb1.out.trans (HD.out.mono Hb1.out.size))) (Nat.le_refl _) (by omega)); rintro e u1 ⟨Aa, ma, ca, rfl, oa, ga⟩; have Oa := Lib.hid oa; clear oa; have kb1 : Below w1.heap.size w1 u1 := HD.out.trans (ga.mono HD.out.size)) | (go_at_call 208; go_fit (cloneU_any (H2.out.at hB (Hb1.out.trans ((HD.out.alloc HD.out.size _).mono Hb1.out.size))) (Nat.le_refl _) (by omega)); rintro e u1 ⟨Aa, ma, ca, rfl, oa, ga⟩; have Oa := Lib.hid oa; clear oa; have kb1 : Below w1.heap.size w1 u1 := (HD.out.alloc HD.out.size _).trans (ga.mono (HD.out.alloc HD.out.size _).size))))
  all_goals
    first | (have F2 := Lib.hid (drvA (fz := fz) (off := off) (ss := ss) Hb1.out HC.out Oa.out ga); generalize (u1.alloc (.cells #[.slice (some ⟨w1.heap.size, 0, none⟩) ss.length ss.length, .slice Aa ma ca, .int .i64 fz, .bool off] 202)) = W at F2 ⊢; generalize u1.heap.size = D at F2 ⊢; generalize w1.heap.size = S at F2 ⊢) | (have F2 := Lib.hid (drvB (fz := fz) (off := off) (ss := ss) Hb1.out HC.out Oa.out ga); generalize ((u1.alloc (.cells C 251)).alloc (.cells #[.slice (some ⟨u1.heap.size, 0, none⟩) ss.length ss.length, .slice Aa ma ca, .int .i64 fz, .bool off] 202)) = W at F2 ⊢; generalize u1.heap.size + 1 = D at F2 ⊢; generalize u1.heap.size = S at F2 ⊢)
    clear ga kb1 Oa HS HD hmk HC
    have HDW := Lib.hid (F2.out.2.2 HD1.out)
    have q0 := HDW.out.c0
    simp only [Exit.then]
    go_wp2
    clear q0
    go_loopw [5, 6, 26] (fun a5 a6 i wr => ∃ k : Nat, k ≤ ss.length ∧ i = .int .i64 k ∧ DrvK wr w.heap.size D S k (.slice Aa ma ca) ss ps fz off ∧ Below w.heap.size w wr) (fun _ _ i _ => ss.length - (intOf i).toNat)
    case atStart => exact ⟨0, Nat.zero_le _, rfl, F2.out.1, F2.out.2.1⟩
    case round =>
      obtain ⟨k, hk, rfl, hdk, hbel⟩ := hrel
      have Hdk := Lib.hid hdk; have Hbel := Lib.hid hbel
      by_cases hlt : k < ss.length
      · obtain ⟨b, o, rfl, hb, hc, -⟩ := Hx1.out k hlt
        have hc2 : wr.cell? ⟨b, o + k, none⟩ = some (.string ss[k]) := (hbel.cell (p := ⟨b, o + k, none⟩) (show b < _ by omega)).trans hc
        have q0 := hdk.box.c0
        obtain ⟨C', hC', -⟩ := hdk.sec
        have Hput := Lib.hid (Hdk.out.put hlt (Hok.out k hlt) hC')
        have H64 := Lib.hid (Hok.out k hlt)
        have Hcp : Hid (∀ ty, (Builtin.copy_ #[119, 9] ty #[.slice (some ⟨S, k * 64, none⟩) 64 64, .string ss[k]]).run Try.prog wr = .ok (goInt ss[k].size) (wr.setRow S (putC C' (k * 64) ss[k].data.toList))) := Lib.hid (fun ty => by
          have hsz : ss[k].data.toList.length = ss[k].size := by simp
          have := Lib.run_copy_row_string (P := Try.prog) wr 119 9 ty 5 S (k * 64) 64 64 ss[k] C' 251 Try.underlying119 (by kernel_rfl) hC' (by rw [H64.out]; exact Nat.le_refl _) (by rw [H64.out, Hput.out.1]; omega)
          rw [this, putC, hsz])
        have Hb2 : Hid (Below w.heap.size w (wr.setRow S (putC C' (k * 64) ss[k].data.toList))) := Lib.hid (below_setRow hbel hdk.loS _)
        clear hc hdk hbel hC'
        generalize ss[k] = s at *
        have hcp := Hcp.out 3
        go_wp2
        go_roundw
        case rel => exact ⟨k + 1, by omega, by go_num, Hput.out.2, Hb2.out⟩
        case measure => simp [intOf]; omega
      · obtain rfl : k = ss.length := by omega
        have Hfin : Hid (Drv wr w.heap.size D S (.slice Aa ma ca) ss ps fz off) := Lib.hid (by
          obtain ⟨C', h1, h2, h3⟩ := hdk.sec
          exact ⟨hdk.box, ⟨C', h1, h2, fun i hi => h3 i hi hi⟩, hdk.pend, hdk.loD, hdk.loS, hs256⟩)
        clear hdk hbel
        go_wp2
        go_ret2
        exact .inr ⟨Hr.out, D, S, Aa, ma, ca, rfl, Hfin.out, Hbel.out⟩
end Go.Proofs.Ytlickjmdlooapaa
