/- Plain words for numbers as bytes, and two laws on a row of bytes of the call's own: its append, and its conversion to a string. No statement is proved here. -/
import Derived.Test.YtmddgncidgdglaaRows
import Derived.WalkKit
import Derived.WalkSpells
import Derived.Lib.Hide
import Derived.Lib.BufferRead
import Derived.Laws.OwnMore
import Derived.Laws.IdiomStrings
import Derived.Laws.BitsLemmas
import Derived.Lib.EndianBits
namespace Go.Proofs.Ytmddgncidgdglaa
open Go.RowKit
set_option linter.unusedVariables false

/-- The byte number i of n, in two's complement. -/
def byteOf (n : Int) (i : Nat) : UInt8 := UInt8.ofNat ((n / 2 ^ (8 * i)) % 256).toNat
def leL (n : Int) (k : Nat) : List UInt8 := (List.range k).map (byteOf n)
def leS (n : Int) (k : Nat) : ByteArray := ⟨(leL n k).toArray⟩
def bv (b : UInt8) : Value := .int .u8 (b.toNat : Int)
theorem leL_length (n : Int) (k : Nat) : (leL n k).length = k := by simp [leL]
theorem leL_succ (n : Int) (k : Nat) : leL n (k + 1) = leL n k ++ [byteOf n k] := by simp [leL, List.range_succ]
theorem byteOf_toNat (n : Int) (k : Nat) : ((byteOf n k).toNat : Int) = (n / 2 ^ (8 * k)) % 256 := by
  unfold byteOf
  rw [UInt8.toNat_ofNat']
  have h0 : 0 ≤ (n / 2 ^ (8 * k)) % 256 := Int.emod_nonneg _ (by decide)
  have h1 : (n / 2 ^ (8 * k)) % 256 < 256 := Int.emod_lt_of_pos _ (by decide)
  generalize (n / 2 ^ (8 * k)) % 256 = q at *
  omega
theorem i64_and255 (n : Int) : bits .and .i64 n 255 = n % 256 := by
  have h255 : (BitVec.ofInt 64 255).toNat = 2 ^ 8 - 1 := by decide
  have key : (BitVec.ofInt 64 n &&& BitVec.ofInt 64 255).toNat = (n % ((2 ^ 64 : Nat) : Int)).toNat % 2 ^ 8 := by
    rw [BitVec.toNat_and, BitVec.toNat_ofInt, h255, Nat.and_two_pow_sub_one_eq_mod]
  show IntKind.i64.wrap ((BitVec.ofInt 64 n &&& BitVec.ofInt 64 255).toNat : Nat) = n % 256
  rw [key, IntKind.wrap_i64]
  omega
theorem byte_low (x : Int) : bits .and .i64 x 255 % 256 = x % 256 := by rw [i64_and255, Int.emod_emod]
theorem i64_bounds {x : Int} (h : (Lit.int .i64 x).wf = true) : -9223372036854775808 ≤ x ∧ x < 9223372036854775808 := by
  simp [Lit.wf, IntKind.min, IntKind.max, IntKind.signed, IntKind.bits] at h
  exact ⟨by omega, by omega⟩
theorem add_none (g j : Nat) : (⟨g, 0, none⟩ : Addr).add j = ⟨g, j, none⟩ := by
  unfold Addr.add
  by_cases h : j = 0 <;> simp [h]

theorem Try.infoB : (Try.prog.info? 5).map (fun i => (i.zero, i.size, i.bytes)) = some (some (.int .u8 0), 1, 1) := by kernel_rfl

/-- A row of bytes of the call's own. -/
def OwnB (w : World) (B : Nat) (v : Value) (l : List UInt8) : Prop := w.ownsRow B 5 1 v l.length (l.map bv)

theorem conv_own {w : World} {B : Nat} {v : Value} {l : List UInt8} (h : OwnB w B v l) : (convert 62 9 v).run Try.prog w = .ok (.string ⟨l.toArray⟩) w := by
  rcases h.2 with ⟨rfl, hn⟩ | ⟨g, cap, cur, rfl, hb, hg, hn, hcap, hcs, htake⟩
  · have : l = [] := List.eq_nil_of_length_eq_zero hn
    subst this
    exact Lib.run_convert_nil_bytes w 62 9 5 0 Try.underlying62 Try.underlying5 Try.underlying9
  · refine run_convert_bytes_back w 62 9 5 _ cap l Try.underlying62 Try.underlying5 Try.underlying9 (fun j hj => ?_)
    have := World.ownsRow.cells (g := g) h rfl j (bv l[j]) (by simp [hj])
    exact this

/-- 'append' of some bytes written out, onto a row of the call's own. -/
theorem wpList_app {ops : Array Oper} {rest : List Oper} {o : Oper} {a : Act} {Q : Exit → Act → World → Prop} (wr : World) (C : Array Value) (m : Nat) (hgd : o.guard = none) (s x : Operand)
    (ho : o.op = .call { callee := .builtin .append, args := #[s, x], argTypes := #[62, 62] }) (B : Nat) (v : Value) (l : List UInt8) (hown : OwnB wr B v l) (hs : a.eval s = v) (bs : List UInt8) (hC : C = (bs.map bv).toArray) (hm : m = bs.length)
    (hx : a.eval x = .slice (some ⟨wr.heap.size, 0, none⟩) m m) (hl : l.length + m ≤ 70368744177664) (hB : B ≤ wr.heap.size)
    (h : ∀ v' w', OwnB w' B v' (l ++ bs) → Below B wr w' → wpList Try.prog ops Q rest (a.put o.dst v') w') :
    wpList Try.prog ops Q (o :: rest) a (wr.alloc (.cells C 5)) := by
  obtain ⟨i0, hi, hz0, hz1, hz2⟩ := info_parts Try.infoB
  subst hC
  subst hm
  refine wpList_append_own _ hgd s x 62 ho B 5 i0 (.int .u8 0) 1 1 Try.underlying62 hi hz0 hz1 hz2 rfl (by decide) v l.length (l.map bv) hs (World.ownsRow.alloc hown _) ⟨wr.heap.size, 0, none⟩ bs.length bs.length (bs.map bv) hx (by simp) ?_ ?_ ?_ ?_ ?_ ?_
  · intro j u hj
    rw [add_none, World.cell?_alloc_mark]
    simpa using hj
  · intro u hu
    obtain ⟨b, _, rfl⟩ := List.mem_map.1 hu
    rfl
  · unfold maxLen; omega
  · omega
  · simp; omega
  · intro v' w' ho' hg _
    refine h v' w' ?_ ?_
    · have : (l ++ bs).length = l.length + bs.length := by simp
      unfold OwnB
      rw [this, List.map_append]
      exact ho'
    · exact ((Below.refl B wr).alloc hB _).grown hg (by simp; omega) (fun k hk => (World.ownsRow.lt hown k hk).1)
end Go.Proofs.Ytmddgncidgdglaa
