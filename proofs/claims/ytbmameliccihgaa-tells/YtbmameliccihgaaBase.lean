/-
  Plain lemmas on blocks of memory, on what a sketch is as cells, and on the numbers of P3 to P5 (no program is named here).
-/
import Derived.WalkKit
import Derived.WalkSpells
import Derived.WalkLawsBesides
namespace Go.Proofs.Ytbmameliccihgaa
open Go.RowKit

theorem lt_of_blk {w : World} {i : Nat} {b : Obj} (h : w.heap[i]? = some b) : i < w.heap.size := by
  obtain ⟨h, _⟩ := Array.getElem?_eq_some_iff.1 h; exact h
theorem keep {w w' : World} {i : Nat} {b : Obj} (hb : Below w.heap.size w w') (h : w.heap[i]? = some b) : w'.heap[i]? = some b := by
  rw [hb.block i (lt_of_blk h)]; exact h
theorem bnext {w w1 w2 : World} (h : Below w.heap.size w w1) (k : Below w1.heap.size w1 w2) : Below w.heap.size w w2 := h.trans (k.mono h.size)
theorem blk_old {w : World} {o : Obj} {i : Nat} {b : Obj} (h : w.heap[i]? = some b) : (w.alloc o).heap[i]? = some b := by
  rw [Below.heap_alloc w o i (lt_of_blk h)]; exact h
theorem below_alloc (w : World) (o : Obj) : Below w.heap.size w (w.alloc o) := (Below.refl _ _).alloc (Nat.le_refl _) o
theorem below_alloc2 (w : World) (o o' : Obj) : Below w.heap.size w ((w.alloc o).alloc o') := bnext (below_alloc w o) (below_alloc _ o')
structure Sk where
  c : Int
  s : Int
  l : Int
  g : Int
  r : Nat → Int
  h : Nat → Int
def Sk.at (s : Sk) (i : Nat) : Value :=
  if i = 0 then .int .u16 s.c else if i = 1 then .int .u32 s.s else if i = 2 then .int .i32 s.l else if i = 3 then .int .i32 s.g
  else if i < 20 then .int .u8 (s.r (i - 4)) else .int .u8 (s.h (i - 20))
def Sk.cells (s : Sk) : Array Value := Array.ofFn (n := 28) fun i => s.at i
theorem Sk.size_cells (s : Sk) : s.cells.size = 28 := by simp [Sk.cells]
theorem Sk.get (s : Sk) (i : Nat) (h : i < 28) : s.cells[i]? = some (s.at i) := by simp [Sk.cells, h]
def IsSk (A : Array Value) (s : Sk) : Prop := A = s.cells
theorem IsSk.size {A : Array Value} {s : Sk} (h : IsSk A s) : A.size = 28 := by rw [show A = s.cells from h]; exact s.size_cells
theorem IsSk.reg {A : Array Value} {s : Sk} (h : IsSk A s) (k : Nat) (hk : k < 16) : A[4 + k]? = some (.int .u8 (s.r k)) := by
  rw [show A = s.cells from h, s.get _ (by omega)]; simp [Sk.at, show 4 + k ≠ 1 by omega, show 4 + k ≠ 2 by omega, show 4 + k ≠ 3 by omega, show 4 + k < 20 by omega]
/-- Every field of a sketch fits its kind. -/
structure Sk.Ok (s : Sk) : Prop where
  c0 : 0 ≤ s.c
  c1 : s.c ≤ 65535
  s0 : 0 ≤ s.s
  s1 : s.s ≤ 4294967295
  l0 : -2147483648 ≤ s.l
  l1 : s.l ≤ 2147483647
  g0 : -2147483648 ≤ s.g
  g1 : s.g ≤ 2147483647
  r0 : ∀ k, 0 ≤ s.r k
  r1 : ∀ k, s.r k ≤ 255
  h0 : ∀ k, 0 ≤ s.h k
  h1 : ∀ k, s.h k ≤ 255
theorem IsSk.hist {A : Array Value} {s : Sk} (h : IsSk A s) (k : Nat) (hk : k < 8) : A[20 + k]? = some (.int .u8 (s.h k)) := by
  rw [show A = s.cells from h, s.get _ (by omega)]; simp [Sk.at, show 20 + k ≠ 1 by omega, show 20 + k ≠ 2 by omega, show 20 + k ≠ 3 by omega, show ¬ 20 + k < 20 by omega]
def wgt (r : Int) : Int := if 32 < r then 1 else 2 ^ (32 - r).toNat
theorem wgt_bd (r : Int) (h0 : 0 ≤ r) : 1 ≤ wgt r ∧ wgt r ≤ 4294967296 := by
  unfold wgt; split
  · omega
  · have h : (32 - r).toNat ≤ 32 := by omega
    have := Nat.pow_le_pow_right (n := 2) (by omega) h
    have h1 : 1 ≤ 2 ^ (32 - r).toNat := Nat.one_le_two_pow
    have e : ((2 ^ (32 - r).toNat : Nat) : Int) = (2:Int) ^ (32 - r).toNat := by simp
    rw [← e]; omega
theorem wgt_step (q : Int) (h0 : 0 ≤ q) (h : q < 32) : wgt q = 2 * wgt (q + 1) := by
  unfold wgt
  rw [if_neg (by omega), if_neg (by omega)]
  have e : (32 - q).toNat = (32 - (q + 1)).toNat + 1 := by omega
  rw [e, Int.pow_succ]; omega
theorem wgt_one (q : Int) (h : 32 ≤ q) : wgt q = 1 := by
  unfold wgt
  by_cases e : q = 32
  · subst e; decide
  · rw [if_pos (by omega)]
theorem wgt_part (p q W : Int) (hp : 1 ≤ p) (h0 : 0 ≤ q) (h : p * wgt q = W) : p ≤ W := by
  have h1 := (wgt_bd q h0).1
  have := Int.mul_le_mul_of_nonneg_left h1 (show 0 ≤ p by omega)
  omega
theorem wgt_next (p q W : Int) (h0 : 0 ≤ q) (h : p * wgt q = W) (hq : q < 32) : (2 * p) * wgt (q + 1) = W := by
  rw [wgt_step q h0 hq] at h
  rw [← h, Int.mul_comm 2 p, Int.mul_assoc]
theorem quo_bd (d : Int) (h : 1 ≤ d) : 0 ≤ 738734374912 / d ∧ 738734374912 / d ≤ 738734374912 :=
  ⟨Int.ediv_nonneg (by omega) (by omega), Int.ediv_le_self _ (by omega)⟩
def wsum (s : Sk) : Nat → Int | 0 => 0 | k + 1 => wsum s k + wgt (s.r k)
theorem wsum_bd (s : Sk) (hr : ∀ k, 0 ≤ s.r k) (k : Nat) : (k : Int) ≤ wsum s k ∧ wsum s k ≤ 4294967296 * (k : Int) := by
  induction k with
  | zero => simp [wsum]
  | succ k ih => have := wgt_bd (s.r k) (hr k); simp only [wsum]; omega
def hsum (s : Sk) : Nat → Int | 0 => 0 | k + 1 => hsum s k + s.h k
theorem hsum_succ (s : Sk) (k : Nat) : hsum s (k + 1) = hsum s k + s.h k := rfl
theorem hsum_bd (s : Sk) (h0 : ∀ k, 0 ≤ s.h k) (h1 : ∀ k, s.h k ≤ 255) (k : Nat) : 0 ≤ hsum s k ∧ hsum s k ≤ 255 * (k : Int) := by
  induction k with
  | zero => simp [hsum]
  | succ k ih => have := h0 k; have := h1 k; simp only [hsum]; omega
def clamp (p : Int) : Int := if p < 0 then 0 else if 1000 < p then 1000 else p
theorem clamp_bd (p : Int) : 0 ≤ clamp p ∧ clamp p ≤ 1000 := by unfold clamp; omega
def rkGo (s : Sk) (need : Int) (b : Nat) : Nat → Nat
  | 0 => 7
  | n + 1 => if need ≤ 1000 * hsum s (b + 1) then b else rkGo s need (b + 1) n
def rank (s : Sk) (p : Int) : Nat := rkGo s (clamp p * hsum s 8) 0 7
theorem need_bd (a b : Int) (h0 : 0 ≤ a) (h1 : a ≤ 1000) (h2 : 0 ≤ b) (h3 : b ≤ 2040) : 0 ≤ a * b ∧ a * b ≤ 2040000 := by
  have := Int.mul_le_mul h1 h3 h2 (by omega)
  have := Int.mul_nonneg h0 h2
  omega
theorem rk_hit (s : Sk) (need : Int) (k : Nat) (hk : k < 7) (h : need ≤ 1000 * hsum s (k + 1)) : rkGo s need k (7 - k) = k := by
  rw [show 7 - k = (6 - k) + 1 by omega, rkGo, if_pos h]
theorem rk_miss (s : Sk) (need : Int) (k : Nat) (hk : k < 7) (h : ¬ need ≤ 1000 * hsum s (k + 1)) : rkGo s need k (7 - k) = rkGo s need (k + 1) (7 - (k + 1)) := by
  rw [show 7 - k = (6 - k) + 1 by omega, rkGo, if_neg h, show 6 - k = 7 - (k + 1) by omega]

end Go.Proofs.Ytbmameliccihgaa
