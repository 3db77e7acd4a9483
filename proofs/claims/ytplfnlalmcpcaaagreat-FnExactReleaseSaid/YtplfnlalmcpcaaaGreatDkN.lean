/- New disks: the model's text. No statement is proved here. -/
import Derived.Test.YtplfnlalmcpcaaaGreatDk
import Derived.Test.YtplfnlalmcpcaaaGreatByt
import Derived.Test.YtplfnlalmcpcaaaGreatHeld
import Derived.Deep.AppendLies
import Derived.OwnWalk
import Derived.Laws.ResultCell
namespace Go.Proofs.YtplfnlalmcpcaaaGreat
open Go.RowKit
set_option linter.unusedVariables false
theorem infoTz : (Tryz.prog.info? 9).map (fun i => (i.zero, i.size, i.bytes)) = some (some (.string ⟨#[]⟩), 1, 16) := by kernel_rfl
theorem OT.setc {w : World} {lo b : Nat} {v : Value} {xs : List ByteArray} (h : OT w lo v xs) (hb : b < lo) (j : Nat) (u : Value) : OT (w.setCell ⟨b, j, none⟩ u) lo v xs :=
  own_same h fun g hg => heap_setCell_other _ ⟨b, j, none⟩ g u (fun e => by have := (own_wi h g hg).1; simp at e; omega)
theorem pushT_below {W W2 : World} {g : Nat} {o : Obj} {v1 : Value} {xs : List ByteArray} (h1 : OT W (g + 1) v1 xs) (hg : g < W.heap.size) (hgr : (W.alloc o).grownBy W2 v1.ownBlock) : Below (g + 1) W W2 :=
  ((Below.refl _ W).alloc (by omega) o).grown hgr (by simp; omega) (fun k hk => (own_wi h1 k hk).1)
/-- append of one string that was just laid into a block of its own, its slot named. -/
theorem wp_pushT (d : Option Tmp) {o : Oper} {a : Act} {K : Act → World → Prop} {Q : Exit → Act → World → Prop} {W : World} {lo B : Nat} {v : Value} {xs : List ByteArray} {x : ByteArray} {E : Prop} {ops : Array Oper} (hw : Region.wanted o (yielded ops a.tmps) = true) (s y : Operand) (hd : o.dst = d)
    (ho : o.op = .call { callee := .builtin .append, args := #[s, y], argTypes := #[22, 22] }) (hs : a.eval s = v) (hx : a.eval y = .slice (some ⟨B, 0, none⟩) 1 1) (hB : W.heap.size = B)
    (hown : OT W lo v xs) (hlo : lo ≤ W.heap.size) (hlen : xs.length ≤ 1048576)
    (h : ∀ g cap w', OT w' lo (.slice (some ⟨g, 0, none⟩) (xs.length + 1) cap) (xs ++ [x]) → (W.alloc (.cells #[.string x] 9)).grownBy w' v.ownBlock → (v.ownBlock = some g ∨ g = W.heap.size + 1) → g < w'.heap.size →
      K (a.put d (.slice (some ⟨g, 0, none⟩) (xs.length + 1) cap)) w') : if Region.wanted o (yielded ops a.tmps) = true then Oper.wp Tryz.prog o a (W.alloc (.cells #[.string x] 9)) K Q else E := by
  subst hd
  rw [if_pos hw]
  obtain ⟨i0, hi, hz0, hz1, hz2⟩ := info_parts infoTz
  subst hB
  refine wp_append_lies _ s y 22 ho lo 9 i0 (.string ⟨#[]⟩) 1 16 Tryz.underlying22 hi hz0 hz1 hz2 rfl (by decide) v xs.length (xs.map Value.string) hs (own_bel hown ((Below.refl _ W).alloc (Nat.le_refl _) _))
    ⟨W.heap.size, 0, none⟩ 1 1 [.string x] hx rfl (fun j u hu => ?_) (fun u hu => ?_) (by decide) (by unfold maxLen; omega) (by omega) (by simp; omega) (W.heap.size + 1) (by simp) (fun g cap w' h1 h2 h3 h4 => h g cap w' ?_ h2 h3 h4)
  · rcases j with _ | j
    · obtain rfl := Option.some.inj hu
      rw [add_at, cell_of_row _ _ _ _ _ _ (heap_alloc_new W _)]; rfl
    · simp at hu
  · obtain rfl := List.mem_singleton.1 hu; rfl
  · unfold OT; rw [List.length_append, List.map_append]; exact h1
/-- A new disk under way. -/
def AccT (W : World) (g : Nat) (v : Value) (fz : Int) (ss : List ByteArray) : Prop := DB W g v (.slice none 0 0) fz false ∧ OT W (g + 1) v ss
theorem AccT.keep {W W' : World} {g : Nat} {v : Value} {fz : Int} {ss : List ByteArray} (h : AccT W g v fz ss) (hb : Below W.heap.size W W') : AccT W' g v fz ss := ⟨h.1.keep hb, own_bel h.2 hb⟩
theorem AccT.drew {W : World} {g : Nat} {v : Value} {fz : Int} {ss : List ByteArray} (h : AccT W g v fz ss) : AccT W.drew g v fz ss := h
theorem AccT.mid {W W2 : World} {g : Nat} {o : Obj} {v : Value} {fz : Int} {ss : List ByteArray} (a : AccT W g v fz ss) (hgr : (W.alloc o).grownBy W2 v.ownBlock) : W2.cell? ⟨g, 0, none⟩ = some v ∧ W2.frozen? ⟨g, 0, none⟩ = false := by
  have hr : DB W2 g v (.slice none 0 0) fz false := ((pushT_below a.2 a.1.lt hgr).block g (Nat.lt_succ_self _)).trans a.1
  exact ⟨hr.c0, hr.f 0⟩
theorem AccT.push {W W2 : World} {g h cap : Nat} {o : Obj} {v : Value} {fz : Int} {ss zs : List ByteArray} {n : Nat} (a : AccT W g v fz ss) (hown : OT W2 (g + 1) (.slice (some ⟨h, 0, none⟩) n cap) zs)
    (hgr : (W.alloc o).grownBy W2 v.ownBlock) :
    AccT (W2.setCell ⟨g, 0, none⟩ (.slice (some ⟨h, 0, none⟩) n cap)) g (.slice (some ⟨h, 0, none⟩) n cap) fz zs ∧ Below g W (W2.setCell ⟨g, 0, none⟩ (.slice (some ⟨h, 0, none⟩) n cap)) := by
  have hb := pushT_below a.2 a.1.lt hgr
  have hr : W2.heap[g]? = some (.cells #[v, .slice none 0 0, .int .i64 fz, .bool false] 34 (0, 0)) := (hb.block g (by omega)).trans a.1
  exact ⟨⟨heap_setCell_same _ _ _ _ _ _ hr, hown.setc (Nat.lt_succ_self _) _ _⟩, (hb.mono (Nat.le_succ g)).setCell (p := ⟨g, 0, none⟩) (Nat.le_refl _) _⟩
def zs (k : Nat) : List ByteArray := List.replicate k (zeros 64)
theorem zs_len (k : Nat) : (zs k).length = k := by simp [zs]
theorem zs_succ (k : Nat) : zs k ++ [zeros 64] = zs (k + 1) := by unfold zs; rw [List.replicate_succ']
/-- A disk of one's own. -/
def DskO (w' : World) (lo : Nat) (v1 v2 : Value) (ss : List ByteArray) (ps : List Pt) : Prop := OT w' lo v1 ss ∧ OU w' lo v2 ps ∧ Apart v1 v2
/-- A disk is answered. -/
def AnsD (ss : List ByteArray) (ps : List Pt) (fz : Int) (off : Bool) (w : World) (e : Ending) (w' : World) : Prop := ∃ v1 v2, e = .returned (.agg #[v1, v2, .int .i64 fz, .bool off]) ∧ DskO w' w.heap.size v1 v2 ss ps ∧ Below w.heap.size w w'
/-- A disk and a code are answered. -/
def AnsDC (ss : List ByteArray) (ps : List Pt) (fz : Int) (off : Bool) (c : Int) (w : World) (e : Ending) (w' : World) : Prop := ∃ v1 v2, e = .returned (.tuple #[.agg #[v1, v2, .int .i64 fz, .bool off], .int .i64 c]) ∧ DskO w' w.heap.size v1 v2 ss ps ∧ Below w.heap.size w w'
theorem ou_none (w : World) (lo : Nat) : OU w lo (.slice none 0 0) [] := ⟨by simp [flatP], .inl ⟨rfl, rfl⟩⟩
theorem ot_none (w : World) (lo : Nat) : OT w lo (.slice none 0 0) [] := ⟨by simp, .inl ⟨rfl, rfl⟩⟩
theorem apart_none (v : Value) : Apart v (.slice none 0 0) := fun g hg he => by simp [Value.ownBlock] at he
theorem DskO.nil (w : World) (lo : Nat) : DskO w lo (.slice none 0 0) (.slice none 0 0) [] [] := ⟨ot_none _ _, ou_none _ _, apart_none _⟩
theorem DskO.same {W V : World} {lo r : Nat} {v1 v2 : Value} {ss : List ByteArray} {ps : List Pt} (h : DskO W lo v1 v2 ss ps) (hr : r < lo) (hk : ∀ k, k ≠ r → V.heap[k]? = W.heap[k]?) : DskO V lo v1 v2 ss ps :=
  ⟨own_same h.1 fun g hg => hk g (by have := (own_wi h.1 g hg).1; omega), own_same h.2.1 fun g hg => hk g (by have := (own_wi h.2.1 g hg).1; omega), h.2.2⟩
theorem DskO.lo {W : World} {lo lo' : Nat} {v1 v2 : Value} {ss : List ByteArray} {ps : List Pt} (h : DskO W lo v1 v2 ss ps) (hl : lo' ≤ lo) : DskO W lo' v1 v2 ss ps := ⟨own_lo h.1 hl, own_lo h.2.1 hl, h.2.2⟩
theorem DskO.bel {W V : World} {lo : Nat} {v1 v2 : Value} {ss : List ByteArray} {ps : List Pt} (h : DskO W lo v1 v2 ss ps) (hb : Below W.heap.size W V) : DskO V lo v1 v2 ss ps := ⟨own_bel h.1 hb, own_bel h.2.1 hb, h.2.2⟩
end Go.Proofs.YtplfnlalmcpcaaaGreat
