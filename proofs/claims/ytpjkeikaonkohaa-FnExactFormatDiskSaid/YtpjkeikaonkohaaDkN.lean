/- New disks: the model's text. No statement is proved here. -/
import Derived.Test.YtpjkeikaonkohaaDk
import Derived.Test.YtpjkeikaonkohaaByt
import Derived.Test.YtpjkeikaonkohaaHeld
import Derived.Deep.AppendLies
import Derived.OwnWalk
import Derived.Laws.ResultCell
namespace Go.Proofs.Ytpjkeikaonkohaa
open Go.RowKit
set_option linter.unusedVariables false
theorem infoTz : (Try.prog.info? 9).map (fun i => (i.zero, i.size, i.bytes)) = some (some (.string ⟨#[]⟩), 1, 16) := by kernel_rfl
theorem OT.setc {w : World} {lo b : Nat} {v : Value} {xs : List ByteArray} (h : OT w lo v xs) (hb : b < lo) (j : Nat) (u : Value) : OT (w.setCell ⟨b, j, none⟩ u) lo v xs :=
  own_same h fun g hg => heap_setCell_other _ ⟨b, j, none⟩ g u (fun e => by have := (own_wi h g hg).1; simp at e; omega)
theorem pushT_below {W W2 : World} {g : Nat} {o : Obj} {v1 : Value} {xs : List ByteArray} (h1 : OT W (g + 1) v1 xs) (hg : g < W.heap.size) (hgr : (W.alloc o).grownBy W2 v1.ownBlock) : Below (g + 1) W W2 :=
  ((Below.refl _ W).alloc (by omega) o).grown hgr (by simp; omega) (fun k hk => (own_wi h1 k hk).1)
/-- append of one string that was just laid into a block of its own, its slot named. -/
theorem wp_pushT (d : Option Tmp) {o : Oper} {a : Act} {K : Act → World → Prop} {Q : Exit → Act → World → Prop} {W : World} {lo B : Nat} {v : Value} {xs : List ByteArray} {x : ByteArray} {E : Prop} {ops : Array Oper} (hw : Region.wanted o (yielded ops a.tmps) = true) (s y : Operand) (hd : o.dst = d)
    (ho : o.op = .call { callee := .builtin .append, args := #[s, y], argTypes := #[22, 22] }) (hs : a.eval s = v) (hx : a.eval y = .slice (some ⟨B, 0, none⟩) 1 1) (hB : W.heap.size = B)
    (hown : OT W lo v xs) (hlo : lo ≤ W.heap.size) (hlen : xs.length ≤ 1048576)
    (h : ∀ g cap w', OT w' lo (.slice (some ⟨g, 0, none⟩) (xs.length + 1) cap) (xs ++ [x]) → (W.alloc (.cells #[.string x] 9)).grownBy w' v.ownBlock → (v.ownBlock = some g ∨ g = W.heap.size + 1) → g < w'.heap.size →
      K (a.put d (.slice (some ⟨g, 0, none⟩) (xs.length + 1) cap)) w') : if Region.wanted o (yielded ops a.tmps) = true then Oper.wp Try.prog o a (W.alloc (.cells #[.string x] 9)) K Q else E := by
  subst hd
  rw [if_pos hw]
  obtain ⟨i0, hi, hz0, hz1, hz2⟩ := info_parts infoTz
  subst hB
  refine wp_append_lies _ s y 22 ho lo 9 i0 (.string ⟨#[]⟩) 1 16 Try.underlying22 hi hz0 hz1 hz2 rfl (by decide) v xs.length (xs.map Value.string) hs (own_bel hown ((Below.refl _ W).alloc (Nat.le_refl _) _))
    ⟨W.heap.size, 0, none⟩ 1 1 [.string x] hx rfl (fun j u hu => ?_) (fun u hu => ?_) (by decide) (by unfold maxLen; omega) (by omega) (by simp; omega) (W.heap.size + 1) (by simp) (fun g cap w' h1 h2 h3 h4 => h g cap w' ?_ h2 h3 h4)
  · rcases j with _ | j
    · obtain rfl := Option.some.inj hu
      rw [add_at, cell_of_row _ _ _ _ _ _ (heap_alloc_new W _)]; rfl
    · simp at hu
  · obtain rfl := List.mem_singleton.1 hu; rfl
  · unfold OT; rw [List.length_append, List.map_append]; exact h1
/-- A new disk under way. -/
def AccT (W : World) (g : Nat) (v : Value) (fz : Int) (ss : List ByteArray) : Prop := DB W g v (.slice none 0 0) fz false ∧ OT W (g + 1) v ss
theorem AccT.keep {W W' : World} {g : Nat} {v : Value} {fz : Int} {ss : List ByteArray} (h : AccT W g v fz ss) (hb : Below W.heap.size W W') : AccT W' g v fz ss := ⟨h.1.keep hb, own_bel h.2 hb⟩
theorem AccT.drew {W : World} {g : Nat} {v : Value} {fz : Int} {ss : List ByteArray} (h : AccT W g v fz ss) : AccT W.drew g v fz ss := h
theorem AccT.mid {W W2 : World} {g : Nat} {o : Obj} {v : Value} {fz : Int} {ss : List ByteArray} (a : AccT W g v fz ss) (hgr : (W.alloc o).grownBy W2 v.ownBlock) : W2.cell? ⟨g, 0, none⟩ = some v ∧ W2.frozen? ⟨g, 0, none⟩ = false := by
  have hr : DB W2 g v (.slice none 0 0) fz false := ((pushT_below a.2 a.1.lt hgr).block g (Nat.lt_succ_self _)).trans a.1
  exact ⟨hr.c0, hr.f 0⟩
theorem AccT.push {W W2 : World} {g h cap : Nat} {o : Obj} {v : Value} {fz : Int} {ss zs : List ByteArray} {n : Nat} (a : AccT W g v fz ss) (hown : OT W2 (g + 1) (.slice (some ⟨h, 0, none⟩) n cap) zs)
    (hgr : (W.alloc o).grownBy W2 v.ownBlock) :
    AccT (W2.setCell ⟨g, 0, none⟩ (.slice (some ⟨h, 0, none⟩) n cap)) g (.slice (some ⟨h, 0, none⟩) n cap) fz zs ∧ Below g W (W2.setCell ⟨g, 0, none⟩ (.slice (some ⟨h, 0, none⟩) n cap)) := by
  have hb := pushT_below a.2 a.1.lt hgr
  have hr : W2.heap[g]? = some (.cells #[v, .slice none 0 0, .int .i64 fz, .bool false] 30 (0, 0)) := (hb.block g (by omega)).trans a.1
  exact ⟨⟨heap_setCell_same _ _ _ _ _ _ hr, hown.setc (Nat.lt_succ_self _) _ _⟩, (hb.mono (Nat.le_succ g)).setCell (p := ⟨g, 0, none⟩) (Nat.le_refl _) _⟩
theorem l09Zero_any (w : World) : Calls Try.prog 103 #[] w fun e w' => e = .returned (.string (zeros 64)) ∧ Below w.heap.size w w' := by
  obtain ⟨i0, hi, hz0, hz1, hz2⟩ := info_parts Try.infoB
  obtain ⟨w1, hrun, hown, hg⟩ := run_make_full (P := Try.prog) w w.heap.size 106 5 i0 (.int .u8 0) 1 Try.underlying106 hi hz0 hz1 .i64 .i64 64 (by rw [hz2]; omega) (by unfold maxLen; omega) (Nat.le_refl _)
  rw [show ((64 : Nat) : Int) = 64 from rfl] at hrun
  rw [made_zero] at hown
  have hown : OwnB w1 w.heap.size (.slice (some ⟨w.heap.size, 0, none⟩) 64 64) (List.replicate 64 (0 : UInt8)) := by
    unfold OwnB; rw [List.length_replicate]; exact hown
  have hc := conv_own hown
  have hz : (⟨(List.replicate 64 (0 : UInt8)).toArray⟩ : ByteArray) = zeros 64 := rfl
  rw [hz] at hc
  have hbel : Below w.heap.size w w1 := (Below.refl _ _).grown hg (Nat.le_refl _) (fun k hk => by cases hk)
  generalize zeros 64 = z at *
  clear hi hz0 hz1 hz2 hg hown hz
  go_enter Try.func103, Try.ntmps103
  go_wp2_with fail
  go_ret
  exact ⟨rfl, hbel⟩
def zs (k : Nat) : List ByteArray := List.replicate k (zeros 64)
theorem zs_len (k : Nat) : (zs k).length = k := by simp [zs]
theorem zs_succ (k : Nat) : zs k ++ [zeros 64] = zs (k + 1) := by unfold zs; rw [List.replicate_succ']
/-- A disk of one's own. -/
def DskO (w' : World) (lo : Nat) (v1 v2 : Value) (ss : List ByteArray) (ps : List Pt) : Prop := OT w' lo v1 ss ∧ OU w' lo v2 ps ∧ Apart v1 v2
/-- A disk is answered. -/
def AnsD (ss : List ByteArray) (ps : List Pt) (fz : Int) (off : Bool) (w : World) (e : Ending) (w' : World) : Prop := ∃ v1 v2, e = .returned (.agg #[v1, v2, .int .i64 fz, .bool off]) ∧ DskO w' w.heap.size v1 v2 ss ps ∧ Below w.heap.size w w'
/-- A disk and a code are answered. -/
def AnsDC (ss : List ByteArray) (ps : List Pt) (fz : Int) (off : Bool) (c : Int) (w : World) (e : Ending) (w' : World) : Prop := ∃ v1 v2, e = .returned (.tuple #[.agg #[v1, v2, .int .i64 fz, .bool off], .int .i64 c]) ∧ DskO w' w.heap.size v1 v2 ss ps ∧ Below w.heap.size w w'
theorem ou_none (w : World) (lo : Nat) : OU w lo (.slice none 0 0) [] := ⟨by simp [flatP], .inl ⟨rfl, rfl⟩⟩
theorem ot_none (w : World) (lo : Nat) : OT w lo (.slice none 0 0) [] := ⟨by simp, .inl ⟨rfl, rfl⟩⟩
theorem apart_none (v : Value) : Apart v (.slice none 0 0) := fun g hg he => by simp [Value.ownBlock] at he
theorem DskO.nil (w : World) (lo : Nat) : DskO w lo (.slice none 0 0) (.slice none 0 0) [] [] := ⟨ot_none _ _, ou_none _ _, apart_none _⟩
theorem DskO.same {W V : World} {lo r : Nat} {v1 v2 : Value} {ss : List ByteArray} {ps : List Pt} (h : DskO W lo v1 v2 ss ps) (hr : r < lo) (hk : ∀ k, k ≠ r → V.heap[k]? = W.heap[k]?) : DskO V lo v1 v2 ss ps :=
  ⟨own_same h.1 fun g hg => hk g (by have := (own_wi h.1 g hg).1; omega), own_same h.2.1 fun g hg => hk g (by have := (own_wi h.2.1 g hg).1; omega), h.2.2⟩
theorem DskO.lo {W : World} {lo lo' : Nat} {v1 v2 : Value} {ss : List ByteArray} {ps : List Pt} (h : DskO W lo v1 v2 ss ps) (hl : lo' ≤ lo) : DskO W lo' v1 v2 ss ps := ⟨own_lo h.1 hl, own_lo h.2.1 hl, h.2.2⟩
theorem DskO.bel {W V : World} {lo : Nat} {v1 v2 : Value} {ss : List ByteArray} {ps : List Pt} (h : DskO W lo v1 v2 ss ps) (hb : Below W.heap.size W V) : DskO V lo v1 v2 ss ps := ⟨own_bel h.1 hb, own_bel h.2.1 hb, h.2.2⟩
set_option maxHeartbeats 2000000 in
set_option maxRecDepth 100000 in
theorem l09New_any (n : Int) (w : World) (hn : inB n 16 256 = true) : Calls Try.prog 73 #[.int .i64 n] w (AnsD (zs n.toNat) [] (-1) false w) := by
  obtain ⟨m, rfl⟩ := Int.eq_ofNat_of_zero_le (show 0 ≤ n by have := inB_iff.1 hn; omega)
  have hm : m ≤ 256 := by have := inB_iff.1 hn; omega
  clear hn
  have Hm := Lib.hid hm
  have Hb0 : Hid (Below w.heap.size w ((w.alloc (.cells #[.slice none 0 0, .slice none 0 0, .int .i64 0, .bool false] 30)).alloc (.cells #[.slice none 0 0, .slice none 0 0, .int .i64 (-1), .bool false] 30))) := Lib.hid (((Below.refl _ w).alloc (Nat.le_refl _) _).alloc (by simp) _)
  have R0 : Hid (((w.alloc (.cells #[.slice none 0 0, .slice none 0 0, .int .i64 0, .bool false] 30)).alloc (.cells #[.slice none 0 0, .slice none 0 0, .int .i64 (-1), .bool false] 30)).heap[w.heap.size]? = some (.cells #[.slice none 0 0, .slice none 0 0, .int .i64 0, .bool false] 30 (0, 0))) := Lib.hid (((Below.refl _ (w.alloc (.cells #[.slice none 0 0, .slice none 0 0, .int .i64 0, .bool false] 30))).alloc (Nat.le_refl _) _ |>.block _ (by simp)).trans (heap_alloc_new w _))
  have Z0 : Hid (((w.alloc (.cells #[.slice none 0 0, .slice none 0 0, .int .i64 0, .bool false] 30)).alloc (.cells #[.slice none 0 0, .slice none 0 0, .int .i64 (-1), .bool false] 30)).heap.size = w.heap.size + 2) := Lib.hid (by simp)
  have T0 : Hid (AccT ((w.alloc (.cells #[.slice none 0 0, .slice none 0 0, .int .i64 0, .bool false] 30)).alloc (.cells #[.slice none 0 0, .slice none 0 0, .int .i64 (-1), .bool false] 30)) (w.heap.size + 1) (.slice none 0 0) (-1) (zs 0)) := Lib.hid (by
    have h := heap_alloc_new (w.alloc (.cells #[.slice none 0 0, .slice none 0 0, .int .i64 0, .bool false] 30)) (.cells #[.slice none 0 0, .slice none 0 0, .int .i64 (-1), .bool false] 30)
    rw [show (w.alloc (.cells #[.slice none 0 0, .slice none 0 0, .int .i64 0, .bool false] 30)).heap.size = w.heap.size + 1 from by simp] at h
    exact ⟨h, ot_none _ _⟩)
  go_enter Try.func73, Try.ntmps73
  go_wp2_with fail
  generalize ((w.alloc (.cells #[.slice none 0 0, .slice none 0 0, .int .i64 0, .bool false] 30)).alloc (.cells #[.slice none 0 0, .slice none 0 0, .int .i64 (-1), .bool false] 30)) = w0 at *
  go_loopw [4] (fun i wr => ∃ (k : Nat) (v : Value), k ≤ m ∧ i = .int .i64 k ∧ AccT wr (w.heap.size + 1) v (-1) (zs k) ∧ Below (w.heap.size + 1) w0 wr) (fun i _ => m - (intOf i).toNat)
  case atStart => exact ⟨0, _, Nat.zero_le _, rfl, T0.out, Below.refl _ _⟩
  case round =>
    obtain ⟨k, v, hk, rfl, hacc, hbel⟩ := hrel
    have Hacc := Lib.hid hacc; have Hbel := Lib.hid hbel
    have Hk := Lib.hid hk
    have Hlt2 : Hid (w.heap.size + 1 < wr.heap.size) := Lib.hid hacc.1.lt
    clear hacc hbel hk
    by_cases hlt : k < m
    · have HkL := Lib.hid hlt
      have Hzl := Lib.hid (zs_len k)
      have Hzs := Lib.hid (zs_succ k)
      have HZ := Lib.hid l09Zero_any
      generalize zeros 64 = z at *
      generalize hLk : zs k = Lk at *
      clear hLk
      go_wp2
      refine wp_region_held_drew (S := fun _ => True) (by kernel_rfl) trivial (fun hHeld => ?_)
      refine held_yes 0 (some 11) rfl rfl (by kernel_rfl) (by kernel_rfl) (by kernel_rfl) (fun _ _ _ h => h) (by kernel_rfl) hHeld (v := ?_) (fun wz hSw => ?_) ?_
      rotate_left 1
      · (try dsimp only at hSw); go_simp; (try with_reducible rfl)
      try simp only [Act.put, List.setIfInBounds_toArray, List.set_cons_zero, List.set_cons_succ]
      refine wpAnyH_ready (rs := [1, 2]) (by kernel_rfl) (by simp) ?_
      refine AllReadyH.cons rfl (fun K hK => ?_) (AllReadyH.cons rfl (fun K hK => ?_) AllReadyH.nil)
      have qld : wr.drew.cell? ⟨w.heap.size + 1, 0, none⟩ = some v := Hacc.out.1.c0
      go_simp
      refine hK.out _ _ trivial (fun hHeld => ?_)
      clear hK K qld
      try simp only [Act.put, List.setIfInBounds_toArray, List.set_cons_zero, List.set_cons_succ]
      refine wpAnyH_ready (rs := [2]) (by kernel_rfl) (by simp) ?_
      refine AllReadyH.cons rfl (fun K hK => ?_) AllReadyH.nil
      go_simp
      go_at_call 103
      go_fit (HZ.out _)
      rintro e u1 ⟨rfl, g1⟩
      have HU := Lib.hid (Hacc.out.drew.keep g1)
      have GU : Hid (Below wr.heap.size wr u1) := Lib.hid ((Below.refl _ wr).drew.trans g1); have SU : Hid (w.heap.size + 1 < u1.heap.size) := Lib.hid HU.out.1.lt
      clear g1
      refine hK.out _ _ trivial (fun hHeld => ?_)
      clear hK K
      try simp only [Act.put, List.setIfInBounds_toArray, List.set_cons_zero, List.set_cons_succ]
      refine wpAnyH_ready (rs := [3]) (by kernel_rfl) (by simp) ?_
      refine AllReadyH.cons rfl (fun K hK => ?_) AllReadyH.nil
      go_simp
      refine hK.out _ _ trivial (fun hHeld => ?_)
      clear hK K
      try simp only [Act.put, List.setIfInBounds_toArray, List.set_cons_zero, List.set_cons_succ]
      refine wpAnyH_ready (rs := [4]) (by kernel_rfl) (by simp) ?_
      refine AllReadyH.cons rfl (fun K hK => ?_) AllReadyH.nil
      refine wp_pushT (W := u1) (v := v) (lo := w.heap.size + 1 + 1) (xs := Lk) (some 15) (by kernel_rfl) (.tmp 12) (.tmp 14) rfl rfl rfl rfl rfl HU.out.2 SU.out (by have := Hzl.out; have := Hm.out; have := HkL.out; omega) ?_
      intro h1 cap1 w1 ow1 gr1 at1 lt1
      obtain ⟨m1, m2⟩ := HU.out.mid gr1
      have HP := Lib.hid (HU.out.push ow1 gr1)
      clear ow1 gr1 at1 lt1
      refine hK.out _ _ trivial (fun hHeld => ?_)
      clear hK K
      try simp only [Act.put, List.setIfInBounds_toArray, List.set_cons_zero, List.set_cons_succ]
      refine held_yes 5 (some 16) rfl rfl (by kernel_rfl) (by kernel_rfl) (by kernel_rfl) (fun _ _ _ h => h) (by kernel_rfl) hHeld (v := ?_) (fun wz hSw => ?_) ?_
      rotate_left 1
      · (try dsimp only at hSw); go_simp; (try with_reducible rfl)
      try simp only [Act.put, List.setIfInBounds_toArray, List.set_cons_zero, List.set_cons_succ]
      refine wpAnyH_ready (rs := [6]) (by kernel_rfl) (by simp) ?_
      refine AllReadyH.cons rfl (fun K hK => ?_) AllReadyH.nil
      go_simp
      refine hK.out _ _ trivial (fun hHeld => ?_)
      clear hK K m1 m2 hHeld
      try simp only [Act.put, List.setIfInBounds_toArray, List.set_cons_zero, List.set_cons_succ]
      refine wpAnyH_done (by kernel_rfl) ?_ _
      rotate_left
      go_simp
      go_at_call 103
      go_fit (HZ.out _)
      rintro e u1 ⟨rfl, g1⟩
      have HU := Lib.hid (Hacc.out.drew.keep g1)
      have GU : Hid (Below wr.heap.size wr u1) := Lib.hid ((Below.refl _ wr).drew.trans g1); have SU : Hid (w.heap.size + 1 < u1.heap.size) := Lib.hid HU.out.1.lt
      clear g1
      refine hK.out _ _ trivial (fun hHeld => ?_)
      clear hK K
      try simp only [Act.put, List.setIfInBounds_toArray, List.set_cons_zero, List.set_cons_succ]
      refine wpAnyH_ready (rs := [1, 3]) (by kernel_rfl) (by simp) ?_
      refine AllReadyH.cons rfl (fun K hK => ?_) (AllReadyH.cons rfl (fun K hK => ?_) AllReadyH.nil)
      have qld : u1.cell? ⟨w.heap.size + 1, 0, none⟩ = some v := HU.out.1.c0
      go_simp
      refine hK.out _ _ trivial (fun hHeld => ?_)
      clear hK K qld
      try simp only [Act.put, List.setIfInBounds_toArray, List.set_cons_zero, List.set_cons_succ]
      refine wpAnyH_ready (rs := [3]) (by kernel_rfl) (by simp) ?_
      refine AllReadyH.cons rfl (fun K hK => ?_) AllReadyH.nil
      go_simp
      refine hK.out _ _ trivial (fun hHeld => ?_)
      clear hK K
      try simp only [Act.put, List.setIfInBounds_toArray, List.set_cons_zero, List.set_cons_succ]
      refine wpAnyH_ready (rs := [4]) (by kernel_rfl) (by simp) ?_
      refine AllReadyH.cons rfl (fun K hK => ?_) AllReadyH.nil
      refine wp_pushT (W := u1) (v := v) (lo := w.heap.size + 1 + 1) (xs := Lk) (some 15) (by kernel_rfl) (.tmp 12) (.tmp 14) rfl rfl rfl rfl rfl HU.out.2 SU.out (by have := Hzl.out; have := Hm.out; have := HkL.out; omega) ?_
      intro h1 cap1 w1 ow1 gr1 at1 lt1
      obtain ⟨m1, m2⟩ := HU.out.mid gr1
      have HP := Lib.hid (HU.out.push ow1 gr1)
      clear ow1 gr1 at1 lt1
      refine hK.out _ _ trivial (fun hHeld => ?_)
      clear hK K
      try simp only [Act.put, List.setIfInBounds_toArray, List.set_cons_zero, List.set_cons_succ]
      refine held_yes 5 (some 16) rfl rfl (by kernel_rfl) (by kernel_rfl) (by kernel_rfl) (fun _ _ _ h => h) (by kernel_rfl) hHeld (v := ?_) (fun wz hSw => ?_) ?_
      rotate_left 1
      · (try dsimp only at hSw); go_simp; (try with_reducible rfl)
      try simp only [Act.put, List.setIfInBounds_toArray, List.set_cons_zero, List.set_cons_succ]
      refine wpAnyH_ready (rs := [6]) (by kernel_rfl) (by simp) ?_
      refine AllReadyH.cons rfl (fun K hK => ?_) AllReadyH.nil
      go_simp
      refine hK.out _ _ trivial (fun hHeld => ?_)
      clear hK K m1 m2 hHeld
      try simp only [Act.put, List.setIfInBounds_toArray, List.set_cons_zero, List.set_cons_succ]
      refine wpAnyH_done (by kernel_rfl) ?_ _
      rotate_left
      go_simp
      refine hK.out _ _ trivial (fun hHeld => ?_)
      clear hK K
      try simp only [Act.put, List.setIfInBounds_toArray, List.set_cons_zero, List.set_cons_succ]
      refine wpAnyH_ready (rs := [1]) (by kernel_rfl) (by simp) ?_
      refine AllReadyH.cons rfl (fun K hK => ?_) AllReadyH.nil
      have qld : (u1.alloc (.cells #[.string z] 9)).cell? ⟨w.heap.size + 1, 0, none⟩ = some v := (HU.out.keep ((Below.refl _ _).alloc (Nat.le_refl _) _)).1.c0
      go_simp
      refine hK.out _ _ trivial (fun hHeld => ?_)
      clear hK K qld
      try simp only [Act.put, List.setIfInBounds_toArray, List.set_cons_zero, List.set_cons_succ]
      refine wpAnyH_ready (rs := [4]) (by kernel_rfl) (by simp) ?_
      refine AllReadyH.cons rfl (fun K hK => ?_) AllReadyH.nil
      refine wp_pushT (W := u1) (v := v) (lo := w.heap.size + 1 + 1) (xs := Lk) (some 15) (by kernel_rfl) (.tmp 12) (.tmp 14) rfl rfl rfl rfl rfl HU.out.2 SU.out (by have := Hzl.out; have := Hm.out; have := HkL.out; omega) ?_
      intro h1 cap1 w1 ow1 gr1 at1 lt1
      obtain ⟨m1, m2⟩ := HU.out.mid gr1
      have HP := Lib.hid (HU.out.push ow1 gr1)
      clear ow1 gr1 at1 lt1
      refine hK.out _ _ trivial (fun hHeld => ?_)
      clear hK K
      try simp only [Act.put, List.setIfInBounds_toArray, List.set_cons_zero, List.set_cons_succ]
      refine held_yes 5 (some 16) rfl rfl (by kernel_rfl) (by kernel_rfl) (by kernel_rfl) (fun _ _ _ h => h) (by kernel_rfl) hHeld (v := ?_) (fun wz hSw => ?_) ?_
      rotate_left 1
      · (try dsimp only at hSw); go_simp; (try with_reducible rfl)
      try simp only [Act.put, List.setIfInBounds_toArray, List.set_cons_zero, List.set_cons_succ]
      refine wpAnyH_ready (rs := [6]) (by kernel_rfl) (by simp) ?_
      refine AllReadyH.cons rfl (fun K hK => ?_) AllReadyH.nil
      go_simp
      refine hK.out _ _ trivial (fun hHeld => ?_)
      clear hK K m1 m2 hHeld
      try simp only [Act.put, List.setIfInBounds_toArray, List.set_cons_zero, List.set_cons_succ]
      refine wpAnyH_done (by kernel_rfl) ?_ _
      rotate_left
      all_goals (
        try simp only [Exit.then]
        have hb9 : Below (w.heap.size + 1) w0 (w1.setCell ⟨w.heap.size + 1, 0, none⟩ (.slice (some ⟨h1, 0, none⟩) (Lk.length + 1) cap1)) := (Hbel.out.trans (GU.out.mono (by have := Hlt2.out; omega))).trans HP.out.2
        have HB9 := Lib.hid hb9; clear hb9
        go_wp2
        go_roundw
        case rel => exact ⟨k + 1, _, by have := HkL.out; omega, by go_num, by rw [← Hzs.out]; exact HP.out.1, HB9.out⟩
        case measure => have := HkL.out; simp [intOf]; omega)
    · have hkm : k = m := by have := Hk.out; omega
      subst hkm
      have hr2 : DB wr (w.heap.size + 1) v (.slice none 0 0) (-1) false := Hacc.out.1
      have hr1 : wr.heap[w.heap.size]? = some (.cells #[.slice none 0 0, .slice none 0 0, .int .i64 0, .bool false] 30 (0, 0)) := (Hbel.out.block _ (by omega)).trans R0.out
      have hO := Hacc.out.2
      have HO := Lib.hid hO; clear hO
      have Hr1 := Lib.hid hr1; have Hr2 := Lib.hid hr2; clear hr1 hr2
      have Hi9 : Hid ((Try.prog.info? 30).map (·.size) = some (#[v, .slice none 0 0, .int .i64 (-1), .bool false] : Array Value).size) := Lib.hid (by kernel_rfl)
      have H19 : Hid ((#[v, .slice none 0 0, .int .i64 (-1), .bool false] : Array Value).all (·.oneCell') = true) := Lib.hid (by
        rcases OT.sl HO.out with ⟨rfl, _⟩ | ⟨g, cap, rfl, _⟩ <;> simp [Value.oneCell'])
      go_wp2_with (first | (refine wpList_load_row rfl 30 (.tmp 3) rfl _ rfl 30 _ (0, 0) _ Hr2.out Try.underlying30 rfl (by kernel_rfl) ?_) | (refine wpList_store_row rfl 30 (.tmp 2) (.tmp 17) rfl w.heap.size #[v, .slice none 0 0, .int .i64 (-1), .bool false] rfl rfl 30 #[.slice none 0 0, .slice none 0 0, .int .i64 0, .bool false] Hr1.out Hi9.out rfl H19.out ?_))
      refine bodyPost_ret (v := .agg #[v, .slice none 0 0, .int .i64 (-1), .bool false]) ?_ rfl ?_
      · exact results_cell_row rfl _ _ w.heap.size 30 _ (0, 0) _ rfl (setRow_heap _ _ _ _ _ _ Hr1.out) Try.underlying30 rfl (by kernel_rfl)
      · refine ⟨v, .slice none 0 0, rfl, ⟨?_, ou_none _ _, apart_none _⟩, below_setRow (Hb0.out.trans (Hbel.out.mono (Nat.le_succ_of_le (Nat.le_refl _)))) (Nat.le_refl _) _⟩
        refine own_lo (own_same HO.out fun q hq => ?_) (Nat.le_add_right _ 2)
        have := own_wi HO.out q hq
        rw [setRow_other _ _ q _ (by omega)]
end Go.Proofs.Ytpjkeikaonkohaa
