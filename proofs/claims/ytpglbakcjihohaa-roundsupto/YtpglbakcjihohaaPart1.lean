/-
  Own texts, laid together: Plain lemmas on blocks of memory, on what a sketch is as cells, and on the numbers of P3 to P5 (no program is named here). Laws of the walk for whole sketches in memory over this translation: made, loaded, stored; the cells are a variable of which only the sketch is known. What Distinct and Rank, the program's and the document's, answer for every sketch whose fields fit their kinds: the same numbers; nothing old in memory is turned. What 'pick' and 'all' answer; what a rank is, that it rises with the part; that Distinct rises with the registers. Plain numbers of P3: the hash, the noughts ahead of the highest one, the bits that a value needs; the sketch of one event (no program is named here). What Hash, register, bucket, noughts and their like answer, the program's and the document's, for every key and every number of their kinds. What Merge, the program's and the document's, answers for every two sketches whose fields fit their kinds: field by field what P3 says; nothing old in memory is turned. What the document's Merge answers for every two sketches whose fields fit their kinds: field by field what P3 says; nothing old in memory is turned. What tributary.Merge answers: the same as the inner Merge. What Empty, the sketch of one event, and Add answer, the program's and the document's, for every key, value and sketch. Two sketches with the same cells compare as equal; loads under a guard; Add of both sides. Plain lemmas on rows of things of several cells each, laid side by side in a block that is known whole or owned; laws of the walk for them (no program is named here).
-/
import Derived.WalkKit
import Derived.WalkSpells
import Derived.WalkLawsBesides
import Derived.Deep.WholeRow
import Derived.Test.YtpglbakcjihohaaRows
import Derived.Deep.QuietTactic
import Derived.BigQuiet
import Derived.Deep.DeepCutAuto
import Derived.Deep.RegionHeld3
import Derived.DeepKeys
import Derived.Deep.AppendLies
import Derived.Deep.MidRow
import Derived.Great.BuildSlice
import Derived.OwnWalk
import Derived.Still
set_option linter.unusedSimpArgs false
set_option linter.unusedVariables false
set_option linter.deprecated false
/-! Plain lemmas on blocks of memory, on what a sketch is as cells, and on the numbers of P3 to P5 (no program is named here). -/
namespace Go.Proofs.Ytpglbakcjihohaa
open Go.RowKit

theorem lt_of_blk {w : World} {i : Nat} {b : Obj} (h : w.heap[i]? = some b) : i < w.heap.size := by
  obtain ⟨h, _⟩ := Array.getElem?_eq_some_iff.1 h; exact h
theorem keep {w w' : World} {i : Nat} {b : Obj} (hb : Below w.heap.size w w') (h : w.heap[i]? = some b) : w'.heap[i]? = some b := by
  rw [hb.block i (lt_of_blk h)]; exact h
theorem bnext {w w1 w2 : World} (h : Below w.heap.size w w1) (k : Below w1.heap.size w1 w2) : Below w.heap.size w w2 := h.trans (k.mono h.size)
theorem blk_old {w : World} {o : Obj} {i : Nat} {b : Obj} (h : w.heap[i]? = some b) : (w.alloc o).heap[i]? = some b := by
  rw [Below.heap_alloc w o i (lt_of_blk h)]; exact h
theorem below_alloc (w : World) (o : Obj) : Below w.heap.size w (w.alloc o) := (Below.refl _ _).alloc (Nat.le_refl _) o
theorem below_alloc2 (w : World) (o o' : Obj) : Below w.heap.size w ((w.alloc o).alloc o') := bnext (below_alloc w o) (below_alloc _ o')
theorem below_drewN {B : Nat} {w w' : World} (h : Below B w w') (n : Nat) : Below B w (w'.drewN n) := ⟨h.os, h.tape, h.output, h.size, h.block⟩
theorem blk2 (w : World) (o1 o2 : Obj) : ((w.alloc o1).alloc o2).heap[w.heap.size + 1]? = some o2 := by have := heap_alloc_new (w.alloc o1) o2; simpa using this
theorem blk3 (w : World) (o1 o2 o3 : Obj) : (((w.alloc o1).alloc o2).alloc o3).heap[w.heap.size + 1 + 1]? = some o3 := by have := heap_alloc_new ((w.alloc o1).alloc o2) o3; simpa using this
theorem cell_set {w : World} {b o b' o' : Nat} {v x : Value} (hne : b' ≠ b) (h : w.cell? ⟨b', o', none⟩ = some x) : (w.setCell ⟨b, o, none⟩ v).cell? ⟨b', o', none⟩ = some x := by
  rw [World.cell?_of_block (w := w) (Below.heap_setCell w ⟨b, o, none⟩ v b' hne)]; exact h
theorem cell_set_drew {w : World} {b o b' o' : Nat} {v x : Value} (hne : b' ≠ b) (h : w.cell? ⟨b', o', none⟩ = some x) : (w.setCell ⟨b, o, none⟩ v).drew.cell? ⟨b', o', none⟩ = some x := cell_set hne h
structure Sk where
  c : Int
  s : Int
  l : Int
  g : Int
  r : Nat → Int
  h : Nat → Int
def Sk.at (s : Sk) (i : Nat) : Value :=
  if i = 0 then .int .u16 s.c else if i = 1 then .int .u32 s.s else if i = 2 then .int .i32 s.l else if i = 3 then .int .i32 s.g
  else if i < 20 then .int .u8 (s.r (i - 4)) else .int .u8 (s.h (i - 20))
def Sk.cells (s : Sk) : Array Value := Array.ofFn (n := 28) fun i => s.at i
theorem Sk.size_cells (s : Sk) : s.cells.size = 28 := by simp [Sk.cells]
theorem Sk.get (s : Sk) (i : Nat) (h : i < 28) : s.cells[i]? = some (s.at i) := by simp [Sk.cells, h]
def IsSk (A : Array Value) (s : Sk) : Prop := A = s.cells
theorem IsSk.size {A : Array Value} {s : Sk} (h : IsSk A s) : A.size = 28 := by rw [show A = s.cells from h]; exact s.size_cells
theorem IsSk.reg {A : Array Value} {s : Sk} (h : IsSk A s) (k : Nat) (hk : k < 16) : A[4 + k]? = some (.int .u8 (s.r k)) := by
  rw [show A = s.cells from h, s.get _ (by omega)]; simp [Sk.at, show 4 + k ≠ 1 by omega, show 4 + k ≠ 2 by omega, show 4 + k ≠ 3 by omega, show 4 + k < 20 by omega]
/-- Every field of a sketch fits its kind. -/
structure Sk.Ok (s : Sk) : Prop where
  c0 : 0 ≤ s.c
  c1 : s.c ≤ 65535
  s0 : 0 ≤ s.s
  s1 : s.s ≤ 4294967295
  l0 : -2147483648 ≤ s.l
  l1 : s.l ≤ 2147483647
  g0 : -2147483648 ≤ s.g
  g1 : s.g ≤ 2147483647
  r0 : ∀ k, 0 ≤ s.r k
  r1 : ∀ k, s.r k ≤ 255
  h0 : ∀ k, 0 ≤ s.h k
  h1 : ∀ k, s.h k ≤ 255
theorem IsSk.hist {A : Array Value} {s : Sk} (h : IsSk A s) (k : Nat) (hk : k < 8) : A[20 + k]? = some (.int .u8 (s.h k)) := by
  rw [show A = s.cells from h, s.get _ (by omega)]; simp [Sk.at, show 20 + k ≠ 1 by omega, show 20 + k ≠ 2 by omega, show 20 + k ≠ 3 by omega, show ¬ 20 + k < 20 by omega]
def wgt (r : Int) : Int := if 32 < r then 1 else 2 ^ (32 - r).toNat
theorem wgt_bd (r : Int) (h0 : 0 ≤ r) : 1 ≤ wgt r ∧ wgt r ≤ 4294967296 := by
  unfold wgt; split
  · omega
  · have h : (32 - r).toNat ≤ 32 := by omega
    have := Nat.pow_le_pow_right (n := 2) (by omega) h
    have h1 : 1 ≤ 2 ^ (32 - r).toNat := Nat.one_le_two_pow
    have e : ((2 ^ (32 - r).toNat : Nat) : Int) = (2:Int) ^ (32 - r).toNat := by simp
    rw [← e]; omega
theorem wgt_step (q : Int) (h0 : 0 ≤ q) (h : q < 32) : wgt q = 2 * wgt (q + 1) := by
  unfold wgt
  rw [if_neg (by omega), if_neg (by omega)]
  have e : (32 - q).toNat = (32 - (q + 1)).toNat + 1 := by omega
  rw [e, Int.pow_succ]; omega
theorem wgt_one (q : Int) (h : 32 ≤ q) : wgt q = 1 := by
  unfold wgt
  by_cases e : q = 32
  · subst e; decide
  · rw [if_pos (by omega)]
theorem wgt_part (p q W : Int) (hp : 1 ≤ p) (h0 : 0 ≤ q) (h : p * wgt q = W) : p ≤ W := by
  have h1 := (wgt_bd q h0).1
  have := Int.mul_le_mul_of_nonneg_left h1 (show 0 ≤ p by omega)
  omega
theorem wgt_next (p q W : Int) (h0 : 0 ≤ q) (h : p * wgt q = W) (hq : q < 32) : (2 * p) * wgt (q + 1) = W := by
  rw [wgt_step q h0 hq] at h
  rw [← h, Int.mul_comm 2 p, Int.mul_assoc]
theorem quo_bd (d : Int) (h : 1 ≤ d) : 0 ≤ 738734374912 / d ∧ 738734374912 / d ≤ 738734374912 :=
  ⟨Int.ediv_nonneg (by omega) (by omega), Int.ediv_le_self _ (by omega)⟩
def wsum (s : Sk) : Nat → Int | 0 => 0 | k + 1 => wsum s k + wgt (s.r k)
theorem wsum_bd (s : Sk) (hr : ∀ k, 0 ≤ s.r k) (k : Nat) : (k : Int) ≤ wsum s k ∧ wsum s k ≤ 4294967296 * (k : Int) := by
  induction k with
  | zero => simp [wsum]
  | succ k ih => have := wgt_bd (s.r k) (hr k); simp only [wsum]; omega
def hsum (s : Sk) : Nat → Int | 0 => 0 | k + 1 => hsum s k + s.h k
theorem hsum_succ (s : Sk) (k : Nat) : hsum s (k + 1) = hsum s k + s.h k := rfl
theorem hsum_bd (s : Sk) (h0 : ∀ k, 0 ≤ s.h k) (h1 : ∀ k, s.h k ≤ 255) (k : Nat) : 0 ≤ hsum s k ∧ hsum s k ≤ 255 * (k : Int) := by
  induction k with
  | zero => simp [hsum]
  | succ k ih => have := h0 k; have := h1 k; simp only [hsum]; omega
def clamp (p : Int) : Int := if p < 0 then 0 else if 1000 < p then 1000 else p
theorem clamp_bd (p : Int) : 0 ≤ clamp p ∧ clamp p ≤ 1000 := by unfold clamp; omega
def rkGo (s : Sk) (need : Int) (b : Nat) : Nat → Nat
  | 0 => 7
  | n + 1 => if need ≤ 1000 * hsum s (b + 1) then b else rkGo s need (b + 1) n
def rank (s : Sk) (p : Int) : Nat := rkGo s (clamp p * hsum s 8) 0 7
theorem need_bd (a b : Int) (h0 : 0 ≤ a) (h1 : a ≤ 1000) (h2 : 0 ≤ b) (h3 : b ≤ 2040) : 0 ≤ a * b ∧ a * b ≤ 2040000 := by
  have := Int.mul_le_mul h1 h3 h2 (by omega)
  have := Int.mul_nonneg h0 h2
  omega
theorem rk_hit (s : Sk) (need : Int) (k : Nat) (hk : k < 7) (h : need ≤ 1000 * hsum s (k + 1)) : rkGo s need k (7 - k) = k := by
  rw [show 7 - k = (6 - k) + 1 by omega, rkGo, if_pos h]
theorem rk_miss (s : Sk) (need : Int) (k : Nat) (hk : k < 7) (h : ¬ need ≤ 1000 * hsum s (k + 1)) : rkGo s need k (7 - k) = rkGo s need (k + 1) (7 - (k + 1)) := by
  rw [show 7 - k = (6 - k) + 1 by omega, rkGo, if_neg h, show 6 - k = 7 - (k + 1) by omega]

/-! ### Merging -/
def mrg (a b : Sk) : Sk := ⟨min (a.c + b.c) 65535, (a.s + b.s) % 4294967296, min a.l b.l, max a.g b.g, fun k => max (a.r k) (b.r k), fun k => min (a.h k + b.h k) 255⟩
theorem mrg_ok {a b : Sk} (x : a.Ok) (y : b.Ok) : (mrg a b).Ok :=
  ⟨by have := x.c0; have := y.c0; simp only [mrg]; omega, by simp only [mrg]; omega, by simp only [mrg]; omega, by simp only [mrg]; omega,
   by have := x.l0; have := y.l0; simp only [mrg]; omega, by have := x.l1; have := y.l1; simp only [mrg]; omega, by have := x.g0; have := y.g0; simp only [mrg]; omega, by have := x.g1; have := y.g1; simp only [mrg]; omega,
   fun k => by have := x.r0 k; have := y.r0 k; simp only [mrg]; omega, fun k => by have := x.r1 k; have := y.r1 k; simp only [mrg]; omega,
   fun k => by have := x.h0 k; have := y.h0 k; simp only [mrg]; omega, fun k => by simp only [mrg]; omega⟩
theorem IsSk.congr {A : Array Value} {s t : Sk} (h : IsSk A s) (hc : s.c = t.c) (hs : s.s = t.s) (hl : s.l = t.l) (hg : s.g = t.g) (hr : ∀ k, k < 16 → s.r k = t.r k) (hh : ∀ k, k < 8 → s.h k = t.h k) : IsSk A t := by
  rw [show A = s.cells from h]
  show s.cells = t.cells
  apply Array.ext_getElem?
  intro i
  by_cases hi : i < 28
  · rw [s.get i hi, t.get i hi]
    unfold Sk.at
    rw [hc, hs, hl, hg]
    by_cases h4 : i < 4
    · have : i = 0 ∨ i = 1 ∨ i = 2 ∨ i = 3 := by omega
      rcases this with rfl | rfl | rfl | rfl <;> rfl
    · by_cases h20 : i < 20
      · rw [hr (i - 4) (by omega)]; simp [show i ≠ 0 by omega, show i ≠ 1 by omega, show i ≠ 2 by omega, show i ≠ 3 by omega, h20]
      · rw [hh (i - 20) (by omega)]; simp [show i ≠ 0 by omega, show i ≠ 1 by omega, show i ≠ 2 by omega, show i ≠ 3 by omega, h20]
  · rw [Array.getElem?_eq_none (by rw [s.size_cells]; omega), Array.getElem?_eq_none (by rw [t.size_cells]; omega)]
theorem IsSk.set {A : Array Value} {s t : Sk} (h : IsSk A s) (i : Nat) (v : Value) (hi : i < 28) (hv : t.at i = v) (ho : ∀ j, j < 28 → j ≠ i → t.at j = s.at j) : IsSk (A.setIfInBounds i v) t := by
  rw [show A = s.cells from h]
  show s.cells.setIfInBounds i v = t.cells
  apply Array.ext_getElem?
  intro j
  rw [Array.getElem?_setIfInBounds]
  by_cases hj : j < 28
  · rw [t.get j hj]
    by_cases e : i = j
    · subst e; rw [if_pos rfl, if_pos (by rw [s.size_cells]; omega), hv]
    · rw [if_neg e, s.get j hj, ho j hj (fun h => e h.symm)]
  · rw [Array.getElem?_eq_none (xs := t.cells) (by rw [t.size_cells]; omega)]
    split
    · rw [if_neg (by rw [s.size_cells]; omega)]
    · rw [Array.getElem?_eq_none (by rw [s.size_cells]; omega)]
theorem Sk.at_reg (s : Sk) (k : Nat) (hk : k < 16) : s.at (4 + k) = .int .u8 (s.r k) := by
  simp [Sk.at, show 4 + k ≠ 1 by omega, show 4 + k ≠ 2 by omega, show 4 + k ≠ 3 by omega, show 4 + k < 20 by omega]
theorem Sk.at_hist (s : Sk) (k : Nat) : s.at (20 + k) = .int .u8 (s.h k) := by
  simp [Sk.at, show 20 + k ≠ 1 by omega, show 20 + k ≠ 2 by omega, show 20 + k ≠ 3 by omega, show ¬ 20 + k < 20 by omega]
/-- One register, or one bucket, written. -/
theorem IsSk.setReg {A : Array Value} {s : Sk} (h : IsSk A s) (k : Nat) (hk : k < 16) (v : Int) : IsSk (A.setIfInBounds (4 + k) (.int .u8 v)) { s with r := fun j => if j = k then v else s.r j } :=
  h.set (4 + k) _ (by omega) (by rw [Sk.at_reg _ k hk]; simp) fun j hj hne => by
    unfold Sk.at
    by_cases h20 : j < 20
    · by_cases h4 : j < 4
      · have : j = 0 ∨ j = 1 ∨ j = 2 ∨ j = 3 := by omega
        rcases this with rfl | rfl | rfl | rfl <;> rfl
      · simp [show j ≠ 0 by omega, show j ≠ 1 by omega, show j ≠ 2 by omega, show j ≠ 3 by omega, h20, show j - 4 ≠ k by omega]
    · simp [h20]
theorem IsSk.setHist {A : Array Value} {s : Sk} (h : IsSk A s) (k : Nat) (hk : k < 8) (v : Int) : IsSk (A.setIfInBounds (20 + k) (.int .u8 v)) { s with h := fun j => if j = k then v else s.h j } :=
  h.set (20 + k) _ (by omega) (by rw [Sk.at_hist]; simp) fun j hj hne => by
    unfold Sk.at
    by_cases h20 : j < 20
    · simp [h20]
    · simp [show j ≠ 0 by omega, show j ≠ 1 by omega, show j ≠ 2 by omega, show j ≠ 3 by omega, h20, show j - 20 ≠ k by omega]
theorem IsSk.setC {A : Array Value} {s : Sk} (h : IsSk A s) (v : Int) : IsSk (A.setIfInBounds 0 (.int .u16 v)) { s with c := v } :=
  h.set 0 _ (by omega) rfl fun j hj hne => by unfold Sk.at; simp [hne]
theorem IsSk.setS {A : Array Value} {s : Sk} (h : IsSk A s) (v : Int) : IsSk (A.setIfInBounds 1 (.int .u32 v)) { s with s := v } :=
  h.set 1 _ (by omega) rfl fun j hj hne => by unfold Sk.at; simp [hne]
theorem IsSk.setL {A : Array Value} {s : Sk} (h : IsSk A s) (v : Int) : IsSk (A.setIfInBounds 2 (.int .i32 v)) { s with l := v } :=
  h.set 2 _ (by omega) rfl fun j hj hne => by unfold Sk.at; simp [hne]
theorem IsSk.setG {A : Array Value} {s : Sk} (h : IsSk A s) (v : Int) : IsSk (A.setIfInBounds 3 (.int .i32 v)) { s with g := v } :=
  h.set 3 _ (by omega) rfl fun j hj hne => by unfold Sk.at; simp [hne]
theorem IsSk.get0 {A : Array Value} {s : Sk} (h : IsSk A s) : A[0]? = some (.int .u16 s.c) := by rw [show A = s.cells from h, s.get _ (by omega)]; rfl
theorem IsSk.get1 {A : Array Value} {s : Sk} (h : IsSk A s) : A[1]? = some (.int .u32 s.s) := by rw [show A = s.cells from h, s.get _ (by omega)]; rfl
theorem IsSk.get2 {A : Array Value} {s : Sk} (h : IsSk A s) : A[2]? = some (.int .i32 s.l) := by rw [show A = s.cells from h, s.get _ (by omega)]; rfl
theorem IsSk.get3 {A : Array Value} {s : Sk} (h : IsSk A s) : A[3]? = some (.int .i32 s.g) := by rw [show A = s.cells from h, s.get _ (by omega)]; rfl
theorem IsSk.one {A : Array Value} {s : Sk} (h : IsSk A s) : A.all (·.oneCell') = true := by
  rw [Array.all_eq_true]
  intro i hi
  have hi' : i < 28 := by rw [← h.size]; exact hi
  have e : A[i]? = some (s.at i) := by rw [show A = s.cells from h]; exact s.get i hi'
  rw [Array.getElem?_eq_getElem hi] at e
  rw [Option.some.inj e]
  unfold Sk.at
  repeat' split
  all_goals rfl

/-! ### Whole variables: laws at the list of a region's operations, the cells a variable -/
section
variable {P : Program} {ops : Array Oper} {rest : List Oper} {o : Oper} {a : Act} {w : World} {Q : Exit → Act → World → Prop}
theorem wpList_alloc_z (hgd : o.guard = none) (t : TypeId) (ho : o.op = .alloc t) (z : Array Value) (hz : (P.info? t).bind (·.zero) = some (.agg z))
    (h : wpList P ops Q rest (a.put o.dst (.pointer (some ⟨w.heap.size, 0, none⟩))) (w.alloc (.cells z t))) : wpList P ops Q (o :: rest) a w :=
  wpList_plain hgd fun K hK => by
    have hz' : (zeroValue t).run P w = .ok (.agg z) w := by
      cases hq : P.info? t with
      | none => simp [hq] at hz
      | some i => simp [hq] at hz; simp [zeroValue, typeInfo, hq, hz]
    unfold Oper.wp execOp
    simp only [ho, Instr.alloc, Sem.run_bind, hz', Result.andThen_ok, newVar, newRow, newObj, Sem.run_pure]
    exact hK _ _ h
theorem wpList_build_z (hgd : o.guard = none) (t : TypeId) (parts : Array (Nat × Operand)) (ho : o.op = .build t parts) (z : Array Value)
    (hz : P.built t (parts.map fun (i, x) => (i, a.eval x)).toList = some z)
    (h : wpList P ops Q rest (a.put o.dst (.agg z)) w) : wpList P ops Q (o :: rest) a w :=
  wpList_build hgd t parts ho (by rw [hz]; rfl) (by rw [hz]; exact h)
/-- A whole variable into the block that was made last. -/
theorem wpList_store_new {o0 : World} {c : Array Value} {t : TypeId} {n : Nat} (hgd : o.guard = none) (x y : Operand) (ho : o.op = .store t x y) (cells : Array Value)
    (hx : a.eval x = .pointer (some ⟨n, 0, none⟩)) (hy : a.eval y = .agg cells) (hn : n = o0.heap.size)
    (hi : (P.info? t).map (·.size) = some cells.size) (hc : c.size = cells.size) (h1 : cells.all (·.oneCell') = true)
    (h : wpList P ops Q rest (a.put o.dst undef) (o0.alloc (.cells cells t))) : wpList P ops Q (o :: rest) a (o0.alloc (.cells c t)) := by
  subst hn
  refine wpList_store_row hgd t x y ho _ cells hx hy t c (heap_alloc_new _ _) hi hc h1 ?_
  rw [World.setRow_alloc_new]
  exact h
end

/-- A sketch with noughts in its registers and buckets, its cells written out. -/
theorem lit_sk (c s l g : Int) : IsSk #[.int .u16 c, .int .u32 s, .int .i32 l, .int .i32 g, .int .u8 0, .int .u8 0, .int .u8 0, .int .u8 0, .int .u8 0, .int .u8 0, .int .u8 0, .int .u8 0, .int .u8 0, .int .u8 0, .int .u8 0, .int .u8 0, .int .u8 0, .int .u8 0, .int .u8 0, .int .u8 0, .int .u8 0, .int .u8 0, .int .u8 0, .int .u8 0, .int .u8 0, .int .u8 0, .int .u8 0, .int .u8 0] ⟨c, s, l, g, fun _ => 0, fun _ => 0⟩ := by
  show _ = Sk.cells _
  simp [Sk.cells, Sk.at, Array.ofFn_succ]

end Go.Proofs.Ytpglbakcjihohaa

/-! Laws of the walk for whole sketches in memory over this translation: made, loaded, stored; the cells are a variable of which only the sketch is known. -/
namespace Go.Proofs.Ytpglbakcjihohaa
open Go.RowKit

def Sk.zero : Sk := ⟨0, 0, 0, 0, fun _ => 0, fun _ => 0⟩
theorem Sk.zero_ok : Sk.zero.Ok :=
  ⟨by decide, by decide, by decide, by decide, by decide, by decide, by decide, by decide, fun _ => by show (0 : Int) ≤ 0; decide, fun _ => by show (0 : Int) ≤ 255; decide, fun _ => by show (0 : Int) ≤ 0; decide, fun _ => by show (0 : Int) ≤ 255; decide⟩
theorem info_sk {A : Array Value} {s : Sk} (h : IsSk A s) : (Try.prog.info? 27).map (·.size) = some A.size := by rw [h.size]; kernel_rfl
theorem zero_sk : (Try.prog.info? 27).bind (·.zero) = some (.agg Sk.zero.cells) := by kernel_rfl
theorem built_sk (x y z : Int) : Try.prog.built 27 [(1, .int .u32 x), (2, .int .i32 y), (3, .int .i32 z)] = some (Sk.mk 0 x y z (fun _ => 0) (fun _ => 0)).cells := by kernel_rfl

section
variable {ops : Array Oper} {rest : List Oper} {o : Oper} {a : Act} {w : World} {Q : Exit → Act → World → Prop}
theorem alloc_sk (hgd : o.guard = none) (ho : o.op = .alloc 27)
    (h : ∀ Z, IsSk Z Sk.zero → wpList Try.prog ops Q rest (a.put o.dst (.pointer (some ⟨w.heap.size, 0, none⟩))) (w.alloc (.cells Z 27))) : wpList Try.prog ops Q (o :: rest) a w :=
  wpList_alloc_z hgd _ ho _ zero_sk (h _ rfl)
theorem build_sk (hgd : o.guard = none) (parts : Array (Nat × Operand)) (ho : o.op = .build 27 parts) (s : Sk)
    (hz : Try.prog.built 27 (parts.map fun (i, x) => (i, a.eval x)).toList = some s.cells)
    (h : ∀ M, IsSk M s → wpList Try.prog ops Q rest (a.put o.dst (.agg M)) w) : wpList Try.prog ops Q (o :: rest) a w :=
  wpList_build_z hgd _ parts ho _ hz (h _ rfl)
theorem load_sk (hgd : o.guard = none) (x : Operand) (ho : o.op = .load 27 x) (g : Nat) (hx : a.eval x = .pointer (some ⟨g, 0, none⟩)) (A : Array Value) (s : Sk) (hA : IsSk A s)
    (hg : w.heap[g]? = some (.cells A 27)) (h : wpList Try.prog ops Q rest (a.put o.dst (.agg A)) w) : wpList Try.prog ops Q (o :: rest) a w :=
  wpList_load_row hgd _ x ho g hx _ A (0, 0) _ hg Try.underlying27 rfl (info_sk hA) h
/-- A whole sketch into the block that was made last. -/
theorem store_sk_new {o0 : World} {c : Array Value} {n : Nat} (hgd : o.guard = none) (x y : Operand) (ho : o.op = .store 27 x y) (A : Array Value) (s z : Sk)
    (hx : a.eval x = .pointer (some ⟨n, 0, none⟩)) (hy : a.eval y = .agg A) (hn : n = o0.heap.size) (hA : IsSk A s) (hc : IsSk c z)
    (h : wpList Try.prog ops Q rest (a.put o.dst undef) (o0.alloc (.cells A 27))) : wpList Try.prog ops Q (o :: rest) a (o0.alloc (.cells c 27)) :=
  wpList_store_new hgd x y ho A hx hy hn (info_sk hA) (by rw [hA.size, hc.size]) hA.one h
/-- A whole sketch into a block of a sketch. -/
theorem store_sk {c : Array Value} {g : Nat} (hgd : o.guard = none) (x y : Operand) (ho : o.op = .store 27 x y) (A : Array Value) (s : Sk)
    (hx : a.eval x = .pointer (some ⟨g, 0, none⟩)) (hy : a.eval y = .agg A) (hA : IsSk A s) (hg : w.heap[g]? = some (.cells c 27)) (hc : c.size = 28)
    (h : wpList Try.prog ops Q rest (a.put o.dst undef) (w.setRow g A)) : wpList Try.prog ops Q (o :: rest) a w :=
  wpList_store_row hgd _ x y ho g A hx hy _ c hg (info_sk hA) (by rw [hA.size, hc]) hA.one h
end
theorem setRow_blk {w : World} {g : Nat} {c A : Array Value} {t : TypeId} (h : w.heap[g]? = some (.cells c t)) : (w.setRow g A).heap[g]? = some (.cells A t) := setRow_heap w g c A t _ h
theorem setRow_oth {w : World} {g i : Nat} {A : Array Value} {b : Obj} (hne : i ≠ g) (h : w.heap[i]? = some b) : (w.setRow g A).heap[i]? = some b := by rw [setRow_other w g i A hne]; exact h
theorem below_setRow {w w' : World} {g : Nat} (A : Array Value) (h : Below w.heap.size w w') (hg : w.heap.size ≤ g) : Below w.heap.size w (w'.setRow g A) :=
  h.trans ⟨rfl, rfl, rfl, by simp, fun k hk => setRow_other w' g k A (by omega)⟩
/-- The answer of a function whose result is a sketch in memory. -/
theorem results_sk {fn : Func} {p : Tmp} (h : fn.results = #[.cell p 27]) (tmps : Array Value) (w : World) (g : Nat) (A : Array Value) (s : Sk) (hA : IsSk A s)
    (hp : tmps.getD p undef = .pointer (some ⟨g, 0, none⟩)) (hg : w.heap[g]? = some (.cells A 27)) : (results fn tmps).run Try.prog w = .ok (.agg A) w :=
  results_cell_row h tmps w g _ A (0, 0) _ hp hg Try.underlying27 rfl (info_sk hA)
end Go.Proofs.Ytpglbakcjihohaa

/-! What Distinct and Rank, the program's and the document's, answer for every sketch whose fields fit their kinds: the same numbers; nothing old in memory is turned. -/
namespace Go.Proofs.Ytpglbakcjihohaa
open Go.RowKit

set_option maxHeartbeats 400000 in
theorem weight_any (r : Int) (w : World) (h0 : 0 ≤ r) (h1 : r ≤ 255) :
    Calls Try.prog 66 #[.int .u8 r] w fun e w' => e = .returned (.int .u64 (wgt r)) ∧ w' = w := by
  by_cases h : 32 < r
  · have H : Hid (wgt r = 1) := by unfold wgt; exact if_pos h
    go_enter Try.func66, Try.ntmps66
    go_wp2
    go_ret
    exact ⟨by rw [H.out]; rfl, rfl⟩
  · have H : Hid (wgt r = 2 ^ (32 - r).toNat) := by unfold wgt; exact if_neg h
    have hb := wgt_bd r h0
    go_enter Try.func66, Try.ntmps66
    go_wp2
    go_ret
    refine ⟨?_, rfl⟩
    show Ending.returned (.int .u64 (IntKind.u64.wrap (2 ^ (32 - r).toNat))) = _
    rw [← H.out]
    congr 2
    simp [IntKind.wrap, IntKind.signed, IntKind.bits]; omega
set_option maxHeartbeats 400000 in
theorem distinct_any (s : Sk) (A : Array Value) (hA : IsSk A s) (w : World) (ok : s.Ok) :
    Calls Try.prog 41 #[.agg A] w fun e w' => e = .returned (.int .u64 (738734374912 / wsum s 16)) ∧ Below w.heap.size w w' := by
  have hsz := hA.size
  have hr := ok.r0
  have hr2 := ok.r1
  have hh0 := ok.h0
  have hh1 := ok.h1
  go_enter Try.func41, Try.ntmps41
  go_wp2
  go_loop [3, 4] (fun t i => ∃ k : Nat, k ≤ 16 ∧ i = .int .i64 k ∧ t = .int .u64 (wsum s k)) (fun _ i => 16 - (intOf i).toNat)
  case atStart => exact ⟨0, Nat.zero_le _, rfl, rfl⟩
  case round =>
    obtain ⟨k, hk, rfl, rfl⟩ := hrel
    have hb := wsum_bd s hr k
    by_cases hlt : k < 16
    · have hg := hA.reg k hlt
      have h1 := hr k
      have h2 := hr2 k
      have hb2 := wsum_bd s hr (k + 1)
      simp only [wsum] at hb2
      go_wp2_with (go_at_call 66; refine (weight_any _ _ (by assumption) (by assumption)).mono ?_; rintro e w' ⟨rfl, rfl⟩)
      go_round
      case rel => exact ⟨k + 1, by omega, by go_num, rfl⟩
      case measure => simp [intOf]; omega
    · obtain rfl : k = 16 := by omega
      go_wp2
      go_ret
      exact ⟨rfl, below_alloc _ _⟩

set_option maxHeartbeats 400000 in
theorem tdistinct_any (s : Sk) (A : Array Value) (hA : IsSk A s) (w : World) (ok : s.Ok) :
    Calls Try.prog 18 #[.agg A] w fun e w' => e = .returned (.int .u64 (738734374912 / wsum s 16)) ∧ Below w.heap.size w w' := by
  have hsz := hA.size
  have hr := ok.r0
  have hr2 := ok.r1
  have hh0 := ok.h0
  have hh1 := ok.h1
  have hi : (Try.prog.info? 27).map (·.size) = some A.size := by rw [hsz]; kernel_rfl
  go_enter Try.func18, Try.ntmps18
  go_wp2_with (first | (refine wpList_load_row rfl 27 _ rfl _ rfl 27 A (0, 0) _ (heap_alloc_new _ _) Try.underlying27 rfl hi ?_) | (go_at_call 41; refine (distinct_any s A hA _ ok).mono ?_; rintro e w1 ⟨rfl, hb⟩))
  go_ret
  exact ⟨rfl, bnext (below_alloc _ _) hb⟩
set_option maxHeartbeats 400000 in
theorem rdistinct_any (s : Sk) (A : Array Value) (hA : IsSk A s) (w : World) (ok : s.Ok) :
    Calls Try.prog 19 #[.agg A] w fun e w' => e = .returned (.int .u64 (738734374912 / wsum s 16)) ∧ Below w.heap.size w w' := by
  have hsz := hA.size
  have hr := ok.r0
  have hr2 := ok.r1
  have hh0 := ok.h0
  have hh1 := ok.h1
  go_enter Try.func19, Try.ntmps19
  go_wp2
  go_loop [3, 4, 5, 6] (fun t i _ _ => ∃ k : Nat, k ≤ 16 ∧ i = .int .i64 k ∧ t = .int .i64 (wsum s k)) (fun _ i _ _ => 16 - (intOf i).toNat)
  case atStart => exact ⟨0, Nat.zero_le _, rfl, rfl⟩
  case round =>
    obtain ⟨k, hk, rfl, rfl⟩ := hrel
    have hb := wsum_bd s hr k
    by_cases hlt : k < 16
    · have hg := hA.reg k hlt
      have h1 := hr k
      have h2 := hr2 k
      have hb2 := wsum_bd s hr (k + 1)
      simp only [wsum] at hb2
      have hw := wgt_bd (s.r k) h1
      go_wp2
      go_loop [5, 6] (fun t u => ∃ p q : Int, 1 ≤ p ∧ 0 ≤ q ∧ q ≤ 255 ∧ Hid (p * wgt q = wgt (s.r k)) ∧ t = .int .i64 p ∧ u = .int .i64 q) (fun _ u => 256 - (intOf u).toNat)
      case atStart => exact ⟨1, s.r k, by omega, h1, h2, by show 1 * _ = _; omega, rfl, rfl⟩
      case round =>
        obtain ⟨p, q, hp, hq0, hq1, HD, rfl, rfl⟩ := hrel
        have hpw := wgt_part p q _ hp hq0 HD.out
        by_cases hq : q < 32
        · go_wp2
          go_round
          case rel => exact ⟨2 * p, q + 1, by omega, by omega, by omega, wgt_next p q _ hq0 HD.out hq, rfl, rfl⟩
          case measure => simp [intOf]; omega
        · have HP : Hid (p = wgt (s.r k)) := by have h := HD.out; rw [wgt_one q (by omega)] at h; show p = _; omega
          go_wp2
          go_round
          case rel => exact ⟨k + 1, by omega, by go_num, by simp only [wsum]; rw [← HP.out]⟩
          case measure => simp [intOf]; omega
    · obtain rfl : k = 16 := by omega
      go_wp2
      have hd := quo_bd (wsum s 16) (by omega)
      go_ret
      exact ⟨congrArg (fun z => Ending.returned (.int .u64 z)) (IntWalk.u64_in _ ⟨hd.1, by omega⟩), below_alloc _ _⟩

theorem within_any (p : Int) (w : World) : Calls Try.prog 67 #[.int .i64 p] w fun e w' => e = .returned (.int .i64 (clamp p)) ∧ w' = w := by
  by_cases h : p < 0
  · have H : Hid (clamp p = 0) := by unfold clamp; exact if_pos h
    go_enter Try.func67, Try.ntmps67
    go_wp2
    go_ret
    exact ⟨by rw [H.out]; rfl, rfl⟩
  · by_cases h' : 1000 < p
    · have H : Hid (clamp p = 1000) := by unfold clamp; rw [if_neg h]; exact if_pos h'
      go_enter Try.func67, Try.ntmps67
      go_wp2
      go_ret
      exact ⟨by rw [H.out]; rfl, rfl⟩
    · have H : Hid (clamp p = p) := by unfold clamp; rw [if_neg h]; exact if_neg h'
      go_enter Try.func67, Try.ntmps67
      go_wp2
      go_ret
      exact ⟨by rw [H.out]; rfl, rfl⟩
set_option maxHeartbeats 400000 in
theorem rank_any (s : Sk) (A : Array Value) (hA : IsSk A s) (p : Int) (w : World) (ok : s.Ok) :
    Calls Try.prog 42 #[.agg A, .int .i64 p] w fun e w' => e = .returned (.int .i64 (rank s p)) ∧ Below w.heap.size w w' := by
  have hsz := hA.size
  have hr := ok.r0
  have hr2 := ok.r1
  have hh0 := ok.h0
  have hh1 := ok.h1
  go_enter Try.func42, Try.ntmps42
  go_wp2
  go_loop [5, 6] (fun t i => ∃ k : Nat, k ≤ 8 ∧ i = .int .i64 k ∧ t = .int .i64 (hsum s k)) (fun _ i => 8 - (intOf i).toNat)
  case atStart => exact ⟨0, Nat.zero_le _, rfl, rfl⟩
  case round =>
    obtain ⟨k, hk, rfl, rfl⟩ := hrel
    have hb := hsum_bd s hh0 hh1 k
    by_cases hlt : k < 8
    · have hg := hA.hist k hlt
      have h1 := hh0 k
      have h2 := hh1 k
      go_wp2
      go_round
      case rel => exact ⟨k + 1, by omega, by go_num, rfl⟩
      case measure => simp [intOf]; omega
    · obtain rfl : k = 8 := by omega
      have hc := clamp_bd p
      have hn := need_bd _ _ hc.1 hc.2 hb.1 (by omega)
      go_wp2_with (go_at_call 67; refine (within_any _ _).mono ?_; rintro e w' ⟨rfl, rfl⟩)
      go_loop [8, 9] (fun t i => ∃ k : Nat, k ≤ 7 ∧ i = .int .i64 k ∧ t = .int .i64 (hsum s k) ∧ Hid (rank s p = rkGo s (clamp p * hsum s 8) k (7 - k))) (fun _ i => 7 - (intOf i).toNat)
      case atStart => exact ⟨0, Nat.zero_le _, rfl, rfl, rfl⟩
      case round =>
        obtain ⟨k, hk, rfl, rfl, HR⟩ := hrel
        have hb' := hsum_bd s hh0 hh1 k
        by_cases hlt : k < 7
        · have hg := hA.hist k (by omega)
          have h1 := hh0 k
          have h2 := hh1 k
          by_cases hd : clamp p * hsum s 8 ≤ (hsum s k + s.h k) * 1000
          · go_wp2
            go_ret
            exact ⟨by rw [HR.out, rk_hit s (clamp p * hsum s 8) k hlt (by rw [hsum_succ s k]; omega)]; rfl, below_alloc _ _⟩
          · go_wp2
            go_round
            case rel => exact ⟨k + 1, by omega, by go_num, rfl, by show rank s p = _; rw [HR.out, rk_miss s (clamp p * hsum s 8) k hlt (by rw [hsum_succ s k]; omega)]⟩
            case measure => simp [intOf]; omega
        · obtain rfl : k = 7 := by omega
          go_wp2
          go_ret
          exact ⟨by rw [HR.out]; rfl, below_alloc _ _⟩
set_option maxHeartbeats 400000 in
theorem trank_any (s : Sk) (A : Array Value) (hA : IsSk A s) (p : Int) (w : World) (ok : s.Ok) :
    Calls Try.prog 20 #[.agg A, .int .i64 p] w fun e w' => e = .returned (.int .i64 (rank s p)) ∧ Below w.heap.size w w' := by
  have hsz := hA.size
  have hr := ok.r0
  have hr2 := ok.r1
  have hh0 := ok.h0
  have hh1 := ok.h1
  have hi : (Try.prog.info? 27).map (·.size) = some A.size := by rw [hsz]; kernel_rfl
  go_enter Try.func20, Try.ntmps20
  go_wp2_with (first | (refine wpList_load_row rfl 27 _ rfl _ rfl 27 A (0, 0) _ (heap_alloc_new _ _) Try.underlying27 rfl hi ?_) | (go_at_call 42; refine (rank_any s A hA _ _ ok).mono ?_; rintro e w1 ⟨rfl, hb⟩))
  go_ret
  exact ⟨rfl, bnext (below_alloc _ _) hb⟩
set_option maxHeartbeats 400000 in
theorem rrank_any (s : Sk) (A : Array Value) (hA : IsSk A s) (p : Int) (w : World) (ok : s.Ok) :
    Calls Try.prog 21 #[.agg A, .int .i64 p] w fun e w' => e = .returned (.int .i64 (rank s p)) ∧ Below w.heap.size w w' := by
  have hsz := hA.size
  have hr := ok.r0
  have hr2 := ok.r1
  have hh0 := ok.h0
  have hh1 := ok.h1
  go_enter Try.func21, Try.ntmps21
  go_upto_if 10 with fail
  go_cut [1] (fun c w' => ∃ q : Int, c = .int .i64 q ∧ 0 ≤ q ∧ Hid (clamp q = clamp p) ∧ w' = w.alloc (.cells A 27))
  case first =>
    go_wp2
    · go_meet
      exact ⟨0, rfl, by omega, by show clamp 0 = clamp p; unfold clamp; omega, rfl⟩
    · go_meet
      exact ⟨p, rfl, by omega, rfl, rfl⟩
  case rest =>
    obtain ⟨q, rfl, hq, HQ, rfl⟩ := hcut
    go_upto_if 12 with fail
    go_cut [1] (fun c w' => ∃ r : Int, c = .int .i64 r ∧ 0 ≤ r ∧ r ≤ 1000 ∧ Hid (r = clamp p) ∧ w' = w.alloc (.cells A 27))
    case first =>
      go_wp2
      · go_meet
        exact ⟨1000, rfl, by omega, by omega, by show 1000 = clamp p; rw [← HQ.out]; unfold clamp; omega, rfl⟩
      · go_meet
        exact ⟨q, rfl, by omega, by omega, by show q = clamp p; rw [← HQ.out]; unfold clamp; omega, rfl⟩
    case rest =>
      obtain ⟨c, rfl, hc0, hc1, HC, rfl⟩ := hcut
      clear hq HQ
      go_wp2
      go_loop [5, 6] (fun t i => ∃ k : Nat, k ≤ 8 ∧ i = .int .i64 k ∧ t = .int .i64 (hsum s k)) (fun _ i => 8 - (intOf i).toNat)
      case atStart => exact ⟨0, Nat.zero_le _, rfl, rfl⟩
      case round =>
        obtain ⟨k, hk, rfl, rfl⟩ := hrel
        have hb := hsum_bd s hh0 hh1 k
        by_cases hlt : k < 8
        · have hg := hA.hist k hlt
          have h1 := hh0 k
          have h2 := hh1 k
          go_wp2
          go_round
          case rel => exact ⟨k + 1, by omega, by go_num, rfl⟩
          case measure => simp [intOf]; omega
        · obtain rfl : k = 8 := by omega
          have hn := need_bd _ _ hc0 hc1 hb.1 (by omega)
          have HS : Hid (rank s p = rkGo s (c * hsum s 8) 0 7) := by rw [HC.out]; rfl
          go_wp2
          go_loop [7, 8] (fun t i => ∃ k : Nat, k ≤ 8 ∧ i = .int .i64 k ∧ t = .int .i64 (hsum s k) ∧ Hid (rank s p = rkGo s (c * hsum s 8) k (7 - k))) (fun _ i => 8 - (intOf i).toNat)
          case atStart => exact ⟨0, Nat.zero_le _, rfl, rfl, HS⟩
          case round =>
            obtain ⟨k, hk, rfl, rfl, HR⟩ := hrel
            have hb' := hsum_bd s hh0 hh1 k
            by_cases hlt : k < 8
            · have hg := hA.hist k (by omega)
              have h1 := hh0 k
              have h2 := hh1 k
              by_cases hd : c * hsum s 8 ≤ 1000 * (hsum s k + s.h k)
              · go_wp2
                go_ret
                exact ⟨by
                  by_cases h7 : k = 7
                  · subst h7; rw [HR.out]; rfl
                  · rw [HR.out, rk_hit s (c * hsum s 8) k (by omega) (by rw [hsum_succ s k]; omega)]; rfl, below_alloc _ _⟩
              · go_wp2
                go_round
                case rel => exact ⟨k + 1, by omega, by go_num, rfl, by
                  show rank s p = _
                  by_cases h7 : k = 7
                  · subst h7; rw [HR.out]; rfl
                  · rw [HR.out, rk_miss s (c * hsum s 8) k (by omega) (by rw [hsum_succ s k]; omega)]⟩
                case measure => simp [intOf]; omega
            · obtain rfl : k = 8 := by omega
              go_wp2
              go_ret
              exact ⟨by rw [HR.out]; rfl, below_alloc _ _⟩


end Go.Proofs.Ytpglbakcjihohaa

/-! What 'pick' and 'all' answer; what a rank is, that it rises with the part; that Distinct rises with the registers. -/
namespace Go.Proofs.Ytpglbakcjihohaa
open Go.RowKit
set_option maxRecDepth 100000

def pk (c n : Int) : Int := if c < 0 then (-(c + 1)) % n else c % n
theorem pk_bd (c n : Int) (hn : 1 ≤ n) : 0 ≤ pk c n ∧ pk c n < n := by
  unfold pk
  split
  · exact ⟨Int.emod_nonneg _ (by omega), Int.emod_lt_of_pos _ (by omega)⟩
  · exact ⟨Int.emod_nonneg _ (by omega), Int.emod_lt_of_pos _ (by omega)⟩
theorem ret_i64 {a b : Int} (h : a = b) : Ending.returned (.int .i64 a) = .returned (.int .i64 b) := by rw [h]
set_option maxHeartbeats 400000 in
theorem pick_any (c n : Int) (w : World) (h0 : -9223372036854775808 ≤ c) (h1 : c ≤ 9223372036854775807) (hn : 1 ≤ n) (hn1 : n ≤ 9223372036854775807) :
    Calls Try.prog 24 #[.int .i64 c, .int .i64 n] w fun e w' => e = .returned (.int .i64 (pk c n)) ∧ w' = w := by
  have hz : (n == 0) = false := by simp; omega
  have hb := pk_bd c n hn
  by_cases h : c < 0
  · have H : Hid (pk c n = (-(c + 1)) % n) := by unfold pk; exact if_pos h
    have hb1 : 0 ≤ (-(c + 1)) % n ∧ (-(c + 1)) % n < n := by rw [← H.out]; exact hb
    have ht : Hid ((-(c + 1)).tmod n = (-(c + 1)) % n) := Int.tmod_eq_emod_of_nonneg (by omega)
    go_enter Try.func24, Try.ntmps24
    go_wp2
    go_ret
    refine ⟨ret_i64 ?_, rfl⟩
    rw [H.out]
    show -((c + 1).tmod n) = _
    rw [← Int.neg_tmod]
    exact ht.out
  · have H : Hid (pk c n = c % n) := by unfold pk; exact if_neg h
    have hb1 : 0 ≤ c % n ∧ c % n < n := by rw [← H.out]; exact hb
    go_enter Try.func24, Try.ntmps24
    go_wp2
    go_ret
    refine ⟨ret_i64 ?_, rfl⟩
    rw [H.out]
set_option maxHeartbeats 400000 in
theorem all_any (s : Sk) (A : Array Value) (hA : IsSk A s) (n : Nat) (hn : n ≤ 8) (w : World) (ok : s.Ok) :
    Calls Try.prog 25 #[.agg A, .int .i64 n] w fun e w' => e = .returned (.int .i64 (hsum s n)) ∧ Below w.heap.size w w' := by
  have hh0 := ok.h0
  have hh1 := ok.h1
  go_enter Try.func25, Try.ntmps25
  go_wp2
  go_loop [5, 6] (fun t i => ∃ k : Nat, k ≤ n ∧ i = .int .i64 k ∧ t = .int .i64 (hsum s k)) (fun _ i => n - (intOf i).toNat)
  case atStart => exact ⟨0, Nat.zero_le _, rfl, rfl⟩
  case round =>
    obtain ⟨k, hk, rfl, rfl⟩ := hrel
    have hb := hsum_bd s hh0 hh1 k
    by_cases hlt : k < n
    · have hg := hA.hist k (by omega)
      have h1 := hh0 k
      have h2 := hh1 k
      go_wp2
      go_round
      case rel => exact ⟨k + 1, by omega, by go_num, rfl⟩
      case measure => simp [intOf]; omega
    · obtain rfl : k = n := by omega
      go_wp2
      go_ret
      exact ⟨rfl, below_alloc _ _⟩

/-! ### What a rank is -/
theorem rkGo_bd (s : Sk) (need : Int) : ∀ f b, rkGo s need b f ≤ 7 ∨ rkGo s need b f < b + f
  | 0, b => .inl (Nat.le_refl _)
  | f + 1, b => by
    unfold rkGo
    split
    · exact .inr (by omega)
    · rcases rkGo_bd s need f (b + 1) with h | h
      · exact .inl h
      · exact .inr (by omega)
theorem rk_le (s : Sk) (need : Int) : rkGo s need 0 7 ≤ 7 := by rcases rkGo_bd s need 7 0 with h | h <;> omega
/-- The buckets up to the rank have it, those ahead of it have it not. -/
theorem rkGo_is (s : Sk) (need : Int) (h8 : need ≤ 1000 * hsum s 8) : ∀ f b, b + f = 7 → (b = 0 ∨ ¬ need ≤ 1000 * hsum s b) → need ≤ 1000 * hsum s (rkGo s need b f + 1) ∧ (rkGo s need b f = 0 ∨ ¬ need ≤ 1000 * hsum s (rkGo s need b f))
  | 0, b, hb, hx => by
    unfold rkGo
    have : b = 7 := by omega
    subst this
    exact ⟨h8, hx⟩
  | f + 1, b, hb, hx => by
    unfold rkGo
    split
    · rename_i h; exact ⟨h, hx⟩
    · rename_i h; exact rkGo_is s need h8 f (b + 1) (by omega) (.inr h)
theorem rkGo_mono (s : Sk) (n1 n2 : Int) (h : n1 ≤ n2) : ∀ f b, b + f = 7 → rkGo s n1 b f ≤ rkGo s n2 b f
  | 0, _, _ => Nat.le_refl _
  | f + 1, b, hb => by
    unfold rkGo
    by_cases h2 : n2 ≤ 1000 * hsum s (b + 1)
    · rw [if_pos h2, if_pos (by omega)]; exact Nat.le_refl _
    · rw [if_neg h2]
      by_cases h1 : n1 ≤ 1000 * hsum s (b + 1)
      · rw [if_pos h1]
        exact rkGo_ge s n2 f (b + 1) b (by omega) (by omega)
      · rw [if_neg h1]; exact rkGo_mono s n1 n2 h f (b + 1) (by omega)
where
  rkGo_ge (s : Sk) (n : Int) : ∀ f b c, c ≤ b → c ≤ 7 → c ≤ rkGo s n b f
    | 0, _, _, _, h7 => h7
    | f + 1, b, c, hc, h7 => by
      unfold rkGo
      split
      · exact hc
      · exact rkGo_ge s n f (b + 1) c (by omega) h7
theorem clamp_in (p : Int) (h0 : 0 ≤ p) (h1 : p ≤ 1000) : clamp p = p := by unfold clamp; omega

/-! ### Distinct rises with the registers -/
theorem wgt_mono (r : Int) (h0 : 0 ≤ r) : wgt (r + 1) ≤ wgt r := by
  by_cases h : r < 32
  · have := wgt_step r h0 h
    have := (wgt_bd (r + 1) (by omega)).1
    omega
  · rw [wgt_one r (by omega), wgt_one (r + 1) (by omega)]; omega
theorem wsum_mono (s t : Sk) (h : ∀ k, wgt (t.r k) ≤ wgt (s.r k)) : ∀ k, wsum t k ≤ wsum s k
  | 0 => Int.le_refl _
  | k + 1 => by have := h k; have := wsum_mono s t h k; simp only [wsum]; omega
theorem dist_mono (x y : Int) (hy : 1 ≤ y) (h : y ≤ x) : 738734374912 / x ≤ 738734374912 / y := by
  have h1 : 738734374912 / x * x ≤ 738734374912 := Int.ediv_mul_le _ (by omega)
  have h2 : 0 ≤ 738734374912 / x := Int.ediv_nonneg (by omega) (by omega)
  refine Int.le_ediv_of_mul_le (by omega) ?_
  have := Int.mul_le_mul_of_nonneg_left h h2
  omega
theorem dist_ten (x : Int) (h1 : 1 ≤ x) (h : x ≤ 68719476736) : 10 ≤ 738734374912 / x := Int.le_ediv_of_mul_le (by omega) (by omega)
end Go.Proofs.Ytpglbakcjihohaa

/-! Plain numbers of P3: the hash, the noughts ahead of the highest one, the bits that a value needs; the sketch of one event (no program is named here). -/
namespace Go.Proofs.Ytpglbakcjihohaa
open Go.RowKit

def hstep (h b : Nat) : Nat := ((h ^^^ b) * 16777619) % 4294967296
def hgo (h : Nat) : List UInt8 → Nat
  | [] => h
  | c :: l => hgo (hstep h c.toNat) l
def h0 : Nat := 2166136261
def hash (l : List UInt8) : Nat := hgo h0 l
theorem hstep_lt (h b : Nat) : hstep h b < 4294967296 := Nat.mod_lt _ (by decide)
theorem hgo_snoc : ∀ (l : List UInt8) (h : Nat) (c : UInt8), hgo h (l ++ [c]) = hstep (hgo h l) c.toNat
  | [], _, _ => rfl
  | _ :: l, _, c => hgo_snoc l _ c
theorem hgo_lt : ∀ (l : List UInt8) (h : Nat), h < 4294967296 → hgo h l < 4294967296
  | [], _, hh => hh
  | c :: l, h, _ => hgo_lt l _ (hstep_lt h c.toNat)
theorem h0_lt : h0 < 4294967296 := by unfold h0; omega
theorem hash_lt (l : List UInt8) : hash l < 4294967296 := hgo_lt l h0 h0_lt
theorem hash_snoc (l : List UInt8) (c : UInt8) : hash (l ++ [c]) = hstep (hash l) c.toNat := hgo_snoc l h0 c
theorem hash_nil : hash [] = 2166136261 := rfl
theorem take_snoc (s : ByteArray) (k : Nat) (h : k < s.size) : s.data.toList.take (k + 1) = s.data.toList.take k ++ [s[k]] := by
  rw [List.take_succ_eq_append_getElem (by simpa using h)]; rfl
theorem hash_take (s : ByteArray) (k : Nat) (h : k < s.size) : hash (s.data.toList.take (k + 1)) = hstep (hash (s.data.toList.take k)) s[k].toNat := by
  rw [take_snoc s k h, hash_snoc]
theorem hash_all (s : ByteArray) (k : Nat) (h : s.size ≤ k) : hash (s.data.toList.take k) = hash s.data.toList := by
  rw [List.take_of_length_le (by simpa using h)]
theorem xor_lt (h b : Nat) (h1 : h < 4294967296) (h2 : b < 256) : h ^^^ b < 4294967296 := Nat.xor_lt_two_pow (n := 32) h1 (by omega)
/-- The last byte alone is turned. -/
theorem xor_low (h b : Nat) (hb : b < 256) : h - h % 256 + (h % 256 ^^^ b) = h ^^^ b := by
  have e1 : (h ^^^ b) % 256 = h % 256 ^^^ b := by
    have := Nat.xor_mod_two_pow (a := h) (b := b) (n := 8)
    rw [show (2 : Nat) ^ 8 = 256 from rfl] at this
    rw [this, Nat.mod_eq_of_lt hb]
  have e2 : (h ^^^ b) / 256 = h / 256 := by
    have := Nat.xor_div_two_pow (a := h) (b := b) (n := 8)
    rw [show (2 : Nat) ^ 8 = 256 from rfl] at this
    rw [this, Nat.div_eq_of_lt hb]; simp
  have := Nat.div_add_mod (h ^^^ b) 256
  have := Nat.div_add_mod h 256
  omega
/-- One bit more of the exclusive or. -/
theorem xor_bit (a b i : Nat) : (a ^^^ b) % 2 ^ (i + 1) = (a ^^^ b) % 2 ^ i + (if a / 2 ^ i % 2 ≠ b / 2 ^ i % 2 then 2 ^ i else 0) := by
  have h1 : (a ^^^ b) / 2 ^ i % 2 = if a / 2 ^ i % 2 ≠ b / 2 ^ i % 2 then 1 else 0 := by
    rw [Nat.xor_div_two_pow]
    generalize a / 2 ^ i = x
    generalize b / 2 ^ i = y
    have := Nat.xor_mod_two_pow (a := x) (b := y) (n := 1)
    rw [show (2 : Nat) ^ 1 = 2 from rfl] at this
    rw [this]
    rcases Nat.mod_two_eq_zero_or_one x with hx | hx <;> rcases Nat.mod_two_eq_zero_or_one y with hy | hy <;> rw [hx, hy] <;> decide
  rw [Nat.pow_succ, Nat.mod_mul, h1]
  split <;> simp

/-! ### The noughts -/
def ntsGo (h n : Nat) : Nat → Nat
  | 0 => n
  | f + 1 => if h / 2 ^ (31 - n) % 2 = 1 then n else ntsGo h (n + 1) f
def nts (h : Nat) : Nat := ntsGo h 0 28
theorem ntsGo_le (h : Nat) : ∀ f n, ntsGo h n f ≤ n + f
  | 0, n => Nat.le_refl _
  | f + 1, n => by
    unfold ntsGo
    split
    · omega
    · have := ntsGo_le h f (n + 1); omega
theorem nts_le (h : Nat) : nts h ≤ 28 := by have := ntsGo_le h 28 0; unfold nts; omega
theorem nts_hit (h n : Nat) (hn : n < 28) (hb : h / 2 ^ (31 - n) % 2 = 1) : ntsGo h n (28 - n) = n := by
  rw [show 28 - n = (27 - n) + 1 by omega, ntsGo, if_pos hb]
theorem nts_miss (h n : Nat) (hn : n < 28) (hb : ¬ h / 2 ^ (31 - n) % 2 = 1) : ntsGo h n (28 - n) = ntsGo h (n + 1) (28 - (n + 1)) := by
  rw [show 28 - n = (27 - n) + 1 by omega, ntsGo, if_neg hb, show 27 - n = 28 - (n + 1) by omega]

/-! ### The bits that a value needs -/
def nb (v : Nat) : Nat := if v = 0 then 0 else v.log2 + 1
theorem nb_step (v : Nat) (h : 0 < v) : nb v = nb (v / 2) + 1 := by
  unfold nb
  rw [if_neg (by omega)]
  by_cases h2 : v / 2 = 0
  · rw [if_pos h2]
    have : v = 1 := by omega
    subst this; decide
  · rw [if_neg h2]
    rw [Nat.log2_def v, if_pos (by omega)]
theorem nb_le (v k : Nat) : nb v ≤ k ↔ v < 2 ^ k := by
  unfold nb
  by_cases h : v = 0
  · subst h; simp [Nat.two_pow_pos]
  · rw [if_neg h]
    have := @Nat.log2_lt v k h
    omega
def bkt (v : Int) : Nat := nb v.toNat / 4
theorem bkt_lt (v : Int) (h : v ≤ 2147483647) : bkt v < 8 := by
  have := (nb_le v.toNat 31).2 (by omega)
  unfold bkt; omega

/-! ### The sketch of one event -/
def one (key : List UInt8) (v : Int) : Sk :=
  ⟨1, v % 4294967296, v, v, fun j => if j = hash key % 16 then (nts (hash key) + 1 : Nat) else 0, fun j => if j = bkt v then 1 else 0⟩
theorem one_ok (key : List UInt8) (v : Int) (h0 : -2147483648 ≤ v) (h1 : v ≤ 2147483647) : (one key v).Ok :=
  ⟨by simp only [one]; omega, by simp only [one]; omega, by simp only [one]; omega, by simp only [one]; omega, h0, h1, h0, h1,
   fun k => by simp only [one]; split <;> omega, fun k => by have := nts_le (hash key); simp only [one]; split <;> omega,
   fun k => by simp only [one]; split <;> omega, fun k => by simp only [one]; split <;> omega⟩
def Sk.empty : Sk := ⟨0, 0, 2147483647, -2147483648, fun _ => 0, fun _ => 0⟩
theorem Sk.empty_ok : Sk.empty.Ok :=
  ⟨by decide, by decide, by decide, by decide, by decide, by decide, by decide, by decide, fun _ => by show (0 : Int) ≤ 0; decide, fun _ => by show (0 : Int) ≤ 255; decide, fun _ => by show (0 : Int) ≤ 0; decide, fun _ => by show (0 : Int) ≤ 255; decide⟩
end Go.Proofs.Ytpglbakcjihohaa

/-! What Hash, register, bucket, noughts and their like answer, the program's and the document's, for every key and every number of their kinds. -/
namespace Go.Proofs.Ytpglbakcjihohaa
open Go.RowKit

theorem ret_num {k : IntKind} {a b : Int} (h : a = b) : Ending.returned (.int k a) = .returned (.int k b) := by rw [h]
set_option maxHeartbeats 400000 in
theorem hash_any (s : ByteArray) (w : World) (hs : s.size ≤ maxLen) :
    Calls Try.prog 34 #[.string s] w fun e w' => e = .returned (.int .u32 (hash s.data.toList)) ∧ w' = w := by
  unfold maxLen at hs
  go_enter Try.func34, Try.ntmps34
  go_wp2
  go_loop [3, 4] (fun t i => ∃ k H : Nat, k ≤ s.size ∧ H < 4294967296 ∧ Hid (H = hash (s.data.toList.take k)) ∧ i = .int .i64 k ∧ t = .int .u32 H) (fun _ i => s.size - (intOf i).toNat)
  case atStart => exact ⟨0, h0, Nat.zero_le _, h0_lt, rfl, rfl, rfl⟩
  case round =>
    obtain ⟨k, H, hk, hH, HD, rfl, rfl⟩ := hrel
    by_cases hlt : k < s.size
    · have HS : Hid (hash (s.data.toList.take (k + 1)) = hstep H s[k].toNat) := by show _ = _; rw [hash_take s k hlt, ← HD.out]
      have hb : s[k].toNat < 256 := UInt8.toNat_lt _
      have hx := u32_xor_nat H s[k].toNat hH (by omega)
      go_wp2
      go_round
      case rel => exact ⟨k + 1, hstep H s[k].toNat, by omega, hstep_lt _ _, HS.out.symm, by go_num, by simp [hstep]⟩
      case measure => simp [intOf]; omega
    · go_wp2
      go_ret
      exact ⟨ret_num (by rw [HD.out, hash_all s k (by omega)]), rfl⟩

theorem quo_le (h p : Nat) : 0 ≤ (h : Int) / (p : Int) ∧ (h : Int) / (p : Int) ≤ h := by
  have := Nat.div_le_self h p
  constructor
  · exact Int.ediv_nonneg (by omega) (by omega)
  · rw [← Int.natCast_ediv]; omega
theorem div_bit (h p : Nat) : ((h : Int) / (p : Int)) % 2 = ((h / p % 2 : Nat) : Int) := by simp
set_option maxHeartbeats 400000 in
theorem bucket_any (v : Int) (w : World) (h0 : -2147483648 ≤ v) (h1 : v ≤ 2147483647) :
    Calls Try.prog 85 #[.int .i32 v] w fun e w' => e = .returned (.int .i64 (bkt v)) ∧ w' = w := by
  go_enter Try.func85, Try.ntmps85
  go_wp2
  go_loop [0, 3] (fun t i => ∃ (u : Int) (k : Nat), u ≤ 2147483647 ∧ -2147483648 ≤ u ∧ k ≤ 31 ∧ Hid (k + nb u.toNat = nb v.toNat) ∧ t = .int .i32 u ∧ i = .int .i64 k) (fun t _ => (intOf t).toNat)
  case atStart => exact ⟨v, 0, h1, h0, by omega, by show 0 + _ = _; omega, rfl, rfl⟩
  case round =>
    obtain ⟨u, k, hu1, hu0, hk, HD, rfl, rfl⟩ := hrel
    by_cases hlt : 0 < u
    · have e1 := nb_step u.toNat (by omega)
      have e2 : u.toNat / 2 = (u / 2).toNat := by omega
      have e3 := (nb_le v.toNat 31).2 (by omega)
      have HN : Hid (k + 1 + nb (u / 2).toNat = nb v.toNat) := by have := HD.out; show _ = _; rw [← e2]; omega
      have hk' : k < 31 := by have := HD.out; omega
      clear e1 e2 e3
      go_wp2
      go_round
      case rel => exact ⟨u / 2, k + 1, by omega, by omega, by omega, HN, rfl, by go_num⟩
      case measure => simp [intOf]; omega
    · have HN : Hid (k = nb v.toNat) := by
        have := HD.out
        rw [show u.toNat = 0 by omega] at this
        exact this
      go_wp2
      go_ret
      refine ⟨ret_num ?_, rfl⟩
      unfold bkt
      rw [← HN.out]
      omega
set_option maxHeartbeats 400000 in
theorem rbucket_any (v : Int) (w : World) (h0 : -2147483648 ≤ v) (h1 : v ≤ 2147483647) :
    Calls Try.prog 65 #[.int .i64 v] w fun e w' => e = .returned (.int .i64 (bkt v)) ∧ w' = w := by
  go_enter Try.func65, Try.ntmps65
  go_wp2
  go_loop [0, 3] (fun t i => ∃ (u : Int) (k : Nat), u ≤ 2147483647 ∧ -2147483648 ≤ u ∧ k ≤ 31 ∧ Hid (k + nb u.toNat = nb v.toNat) ∧ t = .int .i64 u ∧ i = .int .i64 k) (fun t _ => (intOf t).toNat)
  case atStart => exact ⟨v, 0, h1, h0, by omega, by show 0 + _ = _; omega, rfl, rfl⟩
  case round =>
    obtain ⟨u, k, hu1, hu0, hk, HD, rfl, rfl⟩ := hrel
    by_cases hlt : 0 < u
    · have e1 := nb_step u.toNat (by omega)
      have e2 : u.toNat / 2 = (u / 2).toNat := by omega
      have e3 := (nb_le v.toNat 31).2 (by omega)
      have HN : Hid (k + 1 + nb (u / 2).toNat = nb v.toNat) := by have := HD.out; show _ = _; rw [← e2]; omega
      have hk' : k < 31 := by have := HD.out; omega
      clear e1 e2 e3
      go_wp2
      go_round
      case rel => exact ⟨u / 2, k + 1, by omega, by omega, by omega, HN, rfl, by go_num⟩
      case measure => simp [intOf]; omega
    · have HN : Hid (k = nb v.toNat) := by
        have := HD.out
        rw [show u.toNat = 0 by omega] at this
        exact this
      go_wp2
      go_ret
      refine ⟨ret_num ?_, rfl⟩
      unfold bkt
      rw [← HN.out]
      omega
set_option maxHeartbeats 400000 in
theorem noughts_any (h : Nat) (w : World) (hh : h < 4294967296) :
    Calls Try.prog 64 #[.int .i64 h] w fun e w' => e = .returned (.int .i64 (nts h)) ∧ w' = w := by
  go_enter Try.func64, Try.ntmps64
  go_wp2
  go_loop [3, 4] (fun t i => ∃ (k p : Nat), k ≤ 28 ∧ Hid (p = 2 ^ (31 - k)) ∧ 0 < p ∧ p ≤ 2147483648 ∧ Hid (nts h = ntsGo h k (28 - k)) ∧ t = .int .i64 k ∧ i = .int .i64 p) (fun t _ => 28 - (intOf t).toNat)
  case atStart => exact ⟨0, 2147483648, by omega, rfl, by omega, by omega, rfl, rfl, rfl⟩
  case round =>
    obtain ⟨k, p, hk, HP, hp0, hp1, HD, rfl, rfl⟩ := hrel
    by_cases hlt : k < 28
    · have hp8 : 8 < p := by
        rw [HP.out]
        have := Nat.pow_le_pow_right (n := 2) (by omega) (show 4 ≤ 31 - k by omega)
        omega
      have hq := quo_le h p
      by_cases hb : h / p % 2 = 1
      · have hb' : ((h : Int) / (p : Int) % 2 == 1) = true := by rw [div_bit h p, hb]; rfl
        go_wp2
        go_ret
        exact ⟨ret_num (by rw [HD.out, nts_hit h k hlt (by rw [← HP.out]; exact hb)]), rfl⟩
      · have hb0 : h / p % 2 = 0 := by omega
        have hb' : ((h : Int) / (p : Int) % 2 == 1) = false := by rw [div_bit h p, hb0]; rfl
        have HP2 : Hid (p / 2 = 2 ^ (31 - (k + 1))) := by
          show _ = _
          rw [HP.out, show 31 - k = (31 - (k + 1)) + 1 by omega, Nat.pow_succ]; omega
        go_wp2
        go_round
        case rel => exact ⟨k + 1, p / 2, by omega, HP2, by omega, by omega, by show nts h = _; rw [HD.out, nts_miss h k hlt (by rw [← HP.out]; exact hb)], by go_num, by go_num⟩
        case measure => simp [intOf]; omega
    · obtain rfl : k = 28 := by omega
      have hp8 : p = 8 := by rw [HP.out]
      subst hp8
      go_wp2
      go_ret
      exact ⟨ret_num (by rw [HD.out]; rfl), rfl⟩
set_option maxHeartbeats 400000 in
theorem register_any (h : Nat) (w : World) (hh : h < 4294967296) :
    Calls Try.prog 84 #[.int .u32 h] w fun e w' => e = .returned (.int .u8 ((nts h + 1 : Nat) : Int)) ∧ w' = w := by
  go_enter Try.func84, Try.ntmps84
  go_wp2
  go_loop [3, 4] (fun t i => ∃ (k p : Nat), k ≤ 28 ∧ Hid (p = 2 ^ (31 - k)) ∧ 0 < p ∧ p ≤ 2147483648 ∧ Hid (nts h = ntsGo h k (28 - k)) ∧ t = .int .u8 ((k + 1 : Nat) : Int) ∧ i = .int .u32 p) (fun t _ => 30 - (intOf t).toNat)
  case atStart => exact ⟨0, 2147483648, by omega, rfl, by omega, by omega, rfl, rfl, rfl⟩
  case round =>
    obtain ⟨k, p, hk, HP, hp0, hp1, HD, rfl, rfl⟩ := hrel
    have hx := u32_and_nat h p hh (by omega)
    by_cases hlt : k < 28
    · have hp8 : 16 ≤ p := by
        rw [HP.out]
        exact Nat.pow_le_pow_right (n := 2) (by omega) (show 4 ≤ 31 - k by omega)
      have hand : h &&& p = h / p % 2 * p := by rw [HP.out]; exact nat_bit (31 - k) h
      by_cases hb : h / p % 2 = 1
      · rw [hand, hb] at hx
        have hz : ((p : Int) == 0) = false := by simp; omega
        simp only [Nat.one_mul] at hx
        clear hand
        go_wp2
        go_ret
        exact ⟨ret_num (by rw [HD.out, nts_hit h k hlt (by rw [← HP.out]; exact hb)]), rfl⟩
      · have hb0 : h / p % 2 = 0 := by omega
        rw [hand, hb0] at hx
        simp only [Nat.zero_mul] at hx
        have HP2 : Hid (p / 2 = 2 ^ (31 - (k + 1))) := by
          show _ = _
          rw [HP.out, show 31 - k = (31 - (k + 1)) + 1 by omega, Nat.pow_succ]; omega
        clear hand
        go_wp2
        go_round
        case rel => exact ⟨k + 1, p / 2, by omega, HP2, by omega, by omega, by show nts h = _; rw [HD.out, nts_miss h k hlt (by rw [← HP.out]; exact hb)], by go_num, by go_num⟩
        case measure => simp [intOf]; omega
    · obtain rfl : k = 28 := by omega
      have hp8 : p = 8 := by rw [HP.out]
      subst hp8
      go_wp2
      go_ret
      exact ⟨ret_num (by rw [HD.out]; rfl), rfl⟩
set_option maxHeartbeats 400000 in
set_option maxRecDepth 100000 in
theorem exclusive_any (a b : Nat) (w : World) (ha : a < 256) (hb : b < 256) :
    Calls Try.prog 38 #[.int .i64 a, .int .i64 b] w fun e w' => e = .returned (.int .i64 ((a ^^^ b : Nat) : Int)) ∧ ∃ n, w' = w.drewN n := by
  go_enter Try.func38, Try.ntmps38
  go_wp2
  go_loopw [5, 6] (fun t i wr => ∃ (k p n m : Nat), k ≤ 8 ∧ Hid (p = 2 ^ k) ∧ 0 < p ∧ p ≤ 256 ∧ n ≤ 256 ∧ Hid (n = (a ^^^ b) % 2 ^ k) ∧ t = .int .i64 n ∧ i = .int .i64 p ∧ wr = w.drewN m) (fun _ i _ => 512 - (intOf i).toNat)
  case atStart => exact ⟨0, 1, 0, 0, by omega, rfl, by omega, by omega, by omega, by show 0 = _; rw [Nat.pow_zero, Nat.mod_one], rfl, rfl, rfl⟩
  case round =>
    obtain ⟨k, p, n, m, hk, HP, hp0, hp1, hn, HN, rfl, rfl, rfl⟩ := hrel
    by_cases hlt : k < 8
    · have hp8 : p ≤ 128 := by
        rw [HP.out]
        exact Nat.pow_le_pow_right (n := 2) (by omega) (show k ≤ 7 by omega)
      have hq := quo_le a p
      have hq' := quo_le b p
      have HP2 : Hid (2 * p = 2 ^ (k + 1)) := by show _ = _; rw [HP.out, Nat.pow_succ]; omega
      have hnb : n < p := by rw [HN.out, HP.out]; exact Nat.mod_lt _ (Nat.two_pow_pos k)
      have hz : ((p : Int) == 0) = false := by simp; omega
      by_cases hd : a / p % 2 = b / p % 2
      · have hd' : ((a : Int) / (p : Int) % 2 != (b : Int) / (p : Int) % 2) = false := by rw [div_bit a p, div_bit b p, hd]; simp
        have HN2 : Hid (n = (a ^^^ b) % 2 ^ (k + 1)) := by
          show _ = _
          rw [xor_bit, ← HN.out, ← HP.out, if_neg (by omega)]; omega
        go_wp2
        go_quiet (fail)
        go_wp2
        go_roundw
        case rel => exact ⟨k + 1, 2 * p, n, _, by omega, HP2, by omega, by omega, by omega, HN2, rfl, by go_num, rfl⟩
        case measure => simp [intOf]; omega
      · have hd' : ((a : Int) / (p : Int) % 2 != (b : Int) / (p : Int) % 2) = true := by rw [div_bit a p, div_bit b p]; simp; omega
        have HN2 : Hid (n + p = (a ^^^ b) % 2 ^ (k + 1)) := by
          show _ = _
          rw [xor_bit, ← HN.out, ← HP.out, if_pos (by omega)]
        go_wp2
        go_quiet (fail)
        go_wp2
        go_roundw
        case rel => exact ⟨k + 1, 2 * p, n + p, _, by omega, HP2, by omega, by omega, by omega, HN2, by go_num, by go_num, rfl⟩
        case measure => simp [intOf]; omega
    · obtain rfl : k = 8 := by omega
      have hp8 : p = 256 := by rw [HP.out]
      have HE : Hid (n = a ^^^ b) := by
        have := HN.out
        rw [Nat.mod_eq_of_lt (Nat.xor_lt_two_pow (n := 8) ha hb)] at this
        exact this
      subst hp8
      go_wp2
      go_ret
      exact ⟨ret_num (by rw [HE.out]), _, rfl⟩
theorem exclusive_int (a b : Int) (n : Nat) (w : World) (ha : 0 ≤ a) (ha1 : a < 256) (hb : 0 ≤ b) (hb1 : b < 256) (hn : Hid (n = a.toNat ^^^ b.toNat)) :
    Calls Try.prog 38 #[.int .i64 a, .int .i64 b] w fun e w' => e = .returned (.int .i64 n) ∧ ∃ n, w' = w.drewN n := by
  have h := exclusive_any a.toNat b.toNat w (by omega) (by omega)
  rw [show ((a.toNat : Nat) : Int) = a by omega, show ((b.toNat : Nat) : Int) = b by omega, ← hn.out] at h
  exact h
set_option maxRecDepth 100000 in
set_option maxHeartbeats 400000 in
theorem rhash_any (s : ByteArray) (w : World) (hs : s.size ≤ maxLen) :
    Calls Try.prog 14 #[.string s] w fun e w' => e = .returned (.int .u32 (hash s.data.toList)) ∧ ∃ n, w' = w.drewN n := by
  unfold maxLen at hs
  go_enter Try.func14, Try.ntmps14
  go_wp2
  go_loopw [3, 4, 5] (fun t i _ wr => ∃ k H m : Nat, k ≤ s.size ∧ H < 4294967296 ∧ Hid (H = hash (s.data.toList.take k)) ∧ i = .int .i64 k ∧ t = .int .i64 H ∧ wr = w.drewN m) (fun _ i _ _ => s.size - (intOf i).toNat)
  case atStart => exact ⟨0, h0, 0, Nat.zero_le _, h0_lt, rfl, rfl, rfl, rfl⟩
  case round =>
    obtain ⟨k, H, m, hk, hH, HD, rfl, rfl, rfl⟩ := hrel
    by_cases hlt : k < s.size
    · have HS : Hid (hash (s.data.toList.take (k + 1)) = hstep H s[k].toNat) := by show _ = _; rw [hash_take s k hlt, ← HD.out]
      have hb : s[k].toNat < 256 := UInt8.toNat_lt _
      have hx := xor_lt H s[k].toNat hH hb
      obtain ⟨x, HX⟩ : ∃ x, Hid (x = ((H : Int) % 256).toNat ^^^ ((s[k].toNat : Nat) : Int).toNat) := ⟨_, by unfold Hid; rfl⟩
      have hx256 : x < 256 := by
        rw [HX.out]
        exact Nat.xor_lt_two_pow (n := 8) (by omega) (by omega)
      have HL : Hid (H - H % 256 + x = H ^^^ s[k].toNat) := by
        show _ = _
        have := xor_low H s[k].toNat hb
        rw [HX.out, show ((H : Int) % 256).toNat = H % 256 by omega, show ((s[k].toNat : Nat) : Int).toNat = s[k].toNat by omega]
        exact this
      clear hx
      go_wp2_with (go_at_call 38; refine (exclusive_int _ _ x _ (by omega) (by omega) (by omega) (by omega) HX).mono ?_; rintro e w' ⟨rfl, n', rfl⟩)
      go_roundw
      case rel =>
        refine ⟨k + 1, hstep H s[k].toNat, _, by omega, hstep_lt _ _, HS.out.symm, by go_num, ?_, rfl⟩
        have h1 := HL.out
        have e : ((H : Int) - (H : Int) % 256 + (x : Int)) = ((H ^^^ s[k].toNat : Nat) : Int) := by rw [← h1]; omega
        rw [e]
        simp [hstep]
      case measure => simp [intOf]; omega
    · go_wp2
      go_ret
      exact ⟨ret_num (by rw [HD.out, hash_all s k (by omega)]), _, rfl⟩
end Go.Proofs.Ytpglbakcjihohaa

/-! What Merge, the program's and the document's, answers for every two sketches whose fields fit their kinds: field by field what P3 says; nothing old in memory is turned. -/
namespace Go.Proofs.Ytpglbakcjihohaa
open Go.RowKit

theorem ret_int {k : IntKind} {a b : Int} (h : a = b) : Ending.returned (.int k a) = .returned (.int k b) := by rw [h]
set_option maxHeartbeats 400000 in
theorem sumUpTo_any (a b l : Int) (w : World) (ha : 0 ≤ a) (ha1 : a ≤ 65535) (hb : 0 ≤ b) (hb1 : b ≤ 65535) :
    Calls Try.prog 63 #[.int .i64 a, .int .i64 b, .int .i64 l] w fun e w' => e = .returned (.int .i64 (min (a + b) l)) ∧ w' = w := by
  by_cases h : l < a + b
  · have H : Hid (min (a + b) l = l) := by show _ = _; omega
    generalize min (a + b) l = m at H ⊢
    go_enter Try.func63, Try.ntmps63
    go_wp2
    go_ret
    exact ⟨ret_int H.out.symm, rfl⟩
  · have H : Hid (min (a + b) l = a + b) := by show _ = _; omega
    generalize min (a + b) l = m at H ⊢
    go_enter Try.func63, Try.ntmps63
    go_wp2
    go_ret
    exact ⟨ret_int H.out.symm, rfl⟩

/-- What Merge has in memory: both sketches, boxed; the room of its answer; the sketch that it makes. -/
structure MW (w wr : World) (A B M : Array Value) : Prop where
  below : Below w.heap.size w wr
  a : wr.heap[w.heap.size]? = some (.cells A 27)
  b : wr.heap[w.heap.size + 1]? = some (.cells B 27)
  z : ∃ Z : Array Value, Z.size = 28 ∧ wr.heap[w.heap.size + 1 + 1]? = some (.cells Z 27)
  m : wr.heap[w.heap.size + 1 + 1 + 1]? = some (.cells M 27)
theorem MW.start {w : World} {A B Z M : Array Value} (hZ : Z.size = 28) : MW w ((((w.alloc (.cells A 27)).alloc (.cells B 27)).alloc (.cells Z 27)).alloc (.cells M 27)) A B M :=
  ⟨bnext (bnext (bnext (below_alloc _ _) (below_alloc _ _)) (below_alloc _ _)) (below_alloc _ _),
   blk_old (blk_old (blk_old (heap_alloc_new _ _))), blk_old (blk_old (by have := heap_alloc_new (w.alloc (.cells A 27)) (.cells B 27); simpa using this)),
   ⟨Z, hZ, blk_old (by have := heap_alloc_new ((w.alloc (.cells A 27)).alloc (.cells B 27)) (.cells Z 27); simpa using this)⟩,
   by have := heap_alloc_new (((w.alloc (.cells A 27)).alloc (.cells B 27)).alloc (.cells Z 27)) (.cells M 27); simpa using this⟩
theorem MW.drew {w wr : World} {A B M : Array Value} (h : MW w wr A B M) : MW w wr.drew A B M := ⟨h.below.drew, h.a, h.b, h.z, h.m⟩
theorem MW.drewN {w wr : World} {A B M : Array Value} (h : MW w wr A B M) (n : Nat) : MW w (wr.drewN n) A B M := ⟨⟨h.below.os, h.below.tape, h.below.output, h.below.size, h.below.block⟩, h.a, h.b, h.z, h.m⟩
theorem MW.set {w wr : World} {A B M : Array Value} (h : MW w wr A B M) (i : Nat) (v : Value) : MW w (wr.setCell ⟨w.heap.size + 1 + 1 + 1, i, none⟩ v) A B (M.setIfInBounds i v) :=
  ⟨h.below.setCell (by show _ ≤ w.heap.size + 1 + 1 + 1; omega) _,
   by rw [heap_setCell_other _ _ _ _ (by show _ ≠ w.heap.size + 1 + 1 + 1; omega)]; exact h.a,
   by rw [heap_setCell_other _ _ _ _ (by show _ ≠ w.heap.size + 1 + 1 + 1; omega)]; exact h.b,
   by obtain ⟨Z, hz, e⟩ := h.z; exact ⟨Z, hz, by rw [heap_setCell_other _ _ _ _ (by show _ ≠ w.heap.size + 1 + 1 + 1; omega)]; exact e⟩,
   heap_setCell_same _ _ _ _ _ _ h.m⟩

/-- What is known of the sketch that Merge makes when k registers and h buckets are done. -/
def mpart (a b : Sk) (k h : Nat) : Sk := ⟨min (a.c + b.c) 65535, (a.s + b.s) % 4294967296, min a.l b.l, max a.g b.g, fun j => if j < k then max (a.r j) (b.r j) else 0, fun j => if j < h then min (a.h j + b.h j) 255 else 0⟩
theorem merge_start {a b : Sk} {A B Z M : Array Value} {w : World} {L G : Int} (hZ : Z.size = 28) (hM : IsSk M ⟨min (a.c + b.c) 65535, (a.s + b.s) % 4294967296, L, G, fun _ => 0, fun _ => 0⟩) (hL : L = min a.l b.l) (hG : G = max a.g b.g) :
    ∃ (k : Nat) (M' : Array Value), k ≤ 16 ∧ Value.int .i64 0 = .int .i64 k ∧ IsSk M' (mpart a b k 0) ∧
      MW w ((((w.alloc (.cells A 27)).alloc (.cells B 27)).alloc (.cells Z 27)).alloc (.cells M 27)) A B M' :=
  ⟨0, M, by omega, rfl, hM.congr rfl rfl hL hG (fun j _ => by simp [mpart]) (fun j _ => by simp [mpart]), MW.start hZ⟩
theorem mpart_reg {a b : Sk} {k : Nat} {M : Array Value} (hk : k < 16) (h : IsSk M (mpart a b k 0)) (v u : Int) (hv : v = max (a.r k) (b.r k)) : IsSk ((M.setIfInBounds (4 + k) (.int .u8 u)).setIfInBounds (4 + k) (.int .u8 v)) (mpart a b (k + 1) 0) :=
  ((h.setReg k hk u).setReg k hk v).congr rfl rfl rfl rfl (fun j hj => by
    by_cases e : j = k
    · subst e; simp [mpart, hv]
    · simp [mpart, e, show j < k + 1 ↔ j < k by omega]) (fun _ _ => rfl)
theorem mpart_reg1 {a b : Sk} {k : Nat} {M : Array Value} (hk : k < 16) (h : IsSk M (mpart a b k 0)) (v : Int) (hv : v = max (a.r k) (b.r k)) : IsSk (M.setIfInBounds (4 + k) (.int .u8 v)) (mpart a b (k + 1) 0) :=
  (h.setReg k hk v).congr rfl rfl rfl rfl (fun j hj => by
    by_cases e : j = k
    · subst e; simp [mpart, hv]
    · simp [mpart, e, show j < k + 1 ↔ j < k by omega]) (fun _ _ => rfl)
theorem mpart_hist {a b : Sk} {h : Nat} {M : Array Value} (hk : h < 8) (hM : IsSk M (mpart a b 16 h)) (v : Int) (hv : v = min (a.h h + b.h h) 255) : IsSk (M.setIfInBounds (20 + h) (.int .u8 v)) (mpart a b 16 (h + 1)) :=
  (hM.setHist h hk v).congr rfl rfl rfl rfl (fun _ _ => rfl) (fun j hj => by
    by_cases e : j = h
    · subst e; simp [mpart, hv]
    · simp [mpart, e, show j < h + 1 ↔ j < h by omega])
theorem mpart_end {a b : Sk} {M : Array Value} (hM : IsSk M (mpart a b 16 8)) : IsSk M (mrg a b) :=
  hM.congr rfl rfl rfl rfl (fun j hj => by simp [mpart, mrg, hj]) (fun j hj => by simp [mpart, mrg, hj])

set_option maxHeartbeats 1000000 in
theorem merge_any (a b : Sk) (A B : Array Value) (hA : IsSk A a) (hB : IsSk B b) (oka : a.Ok) (okb : b.Ok) (w : World) :
    Calls Try.prog 37 #[.agg A, .agg B] w fun e w' => ∃ M, e = .returned (.agg M) ∧ IsSk M (mrg a b) ∧ Below w.heap.size w w' := by
  have a0 := hA.get0
  have a1 := hA.get1
  have a2 := hA.get2
  have a3 := hA.get3
  have b0 := hB.get0
  have b1 := hB.get1
  have b2 := hB.get2
  have b3 := hB.get3
  have := oka.c0
  have := oka.c1
  have := okb.c0
  have := okb.c1
  by_cases hl : b.l < a.l <;> by_cases hg : a.g < b.g
  all_goals
    go_enter Try.func37, Try.ntmps37
    go_wp2_with (first | (refine alloc_sk rfl rfl ?_; intro Z hZ) | (refine build_sk rfl _ rfl ⟨0, (a.s + b.s) % 4294967296, a.l, a.g, fun _ => 0, fun _ => 0⟩ (by kernel_rfl) ?_; intro M hM; have m2 := hM.get2; have m3 := hM.get3; have m0 := hM.get0) | (refine store_sk_new rfl _ _ rfl M _ _ rfl rfl (by simp) hM (by assumption) ?_) | (go_at_call 63; refine (sumUpTo_any _ _ _ _ (by assumption) (by assumption) (by assumption) (by assumption)).mono ?_; rintro e w' ⟨rfl, rfl⟩))
    clear a0 a1 a2 a3 b0 b1 b2 b3 m0 m2 m3
    go_loopw [6] (fun i wr => ∃ (k : Nat) (M : Array Value), k ≤ 16 ∧ i = .int .i64 k ∧ IsSk M (mpart a b k 0) ∧ MW w wr A B M) (fun i _ => 16 - (intOf i).toNat)
    case atStart => exact merge_start (IsSk.size (s := Sk.zero) (by assumption)) (by first | exact ((hM.setC _).setL _).setG _ | exact (hM.setC _).setL _ | exact (hM.setC _).setG _ | exact hM.setC _) (by first | omega | (dsimp only; omega)) (by first | omega | (dsimp only; omega))
    case round =>
      clear hM
      obtain ⟨k, M, hk, rfl, hM, hm⟩ := hrel
      by_cases hlt : k < 16
      · have ca : wr.cell? ⟨w.heap.size, 4 + k, none⟩ = some (.int .u8 (a.r k)) := by rw [cell_of_row _ _ _ _ _ _ hm.a]; exact hA.reg k hlt
        have cb : wr.cell? ⟨w.heap.size + 1, 4 + k, none⟩ = some (.int .u8 (b.r k)) := by rw [cell_of_row _ _ _ _ _ _ hm.b]; exact hB.reg k hlt
        have cm : wr.cell? ⟨w.heap.size + 1 + 1 + 1, 4 + k, none⟩ = some (.int .u8 0) := by rw [cell_of_row _ _ _ _ _ _ hm.m]; have := hM.reg k hlt; simpa [mpart] using this
        have cf : wr.frozen? ⟨w.heap.size + 1 + 1 + 1, 4 + k, none⟩ = false := frozen_of_row _ _ _ _ _ hm.m
        by_cases hgt : a.r k < b.r k
        · go_wp2
          go_quiet (fail)
          go_wp2
          go_roundw
          case rel => exact ⟨k + 1, _, by omega, by go_num, mpart_reg hlt hM _ _ (by omega), ((hm.set _ _).drewN _).set _ _⟩
          case measure => simp [intOf]; omega
        · go_wp2
          go_quiet (fail)
          go_wp2
          go_roundw
          case rel => exact ⟨k + 1, _, by omega, by go_num, mpart_reg1 hlt hM _ (by omega), (hm.set _ _).drewN _⟩
          case measure => simp [intOf]; omega
      · obtain rfl : k = 16 := by omega
        clear hk hlt
        go_wp2
        go_loopw [7] (fun i wr => ∃ (k : Nat) (M : Array Value), k ≤ 8 ∧ i = .int .i64 k ∧ IsSk M (mpart a b 16 k) ∧ MW w wr A B M) (fun i _ => 8 - (intOf i).toNat)
        case atStart => exact ⟨0, M, by omega, rfl, hM, hm⟩
        case round =>
          clear hM hm
          obtain ⟨k, M, hk, rfl, hM, hm⟩ := hrel
          by_cases hlt : k < 8
          · have ca : wr.cell? ⟨w.heap.size, 20 + k, none⟩ = some (.int .u8 (a.h k)) := by rw [cell_of_row _ _ _ _ _ _ hm.a]; exact hA.hist k hlt
            have cb : wr.cell? ⟨w.heap.size + 1, 20 + k, none⟩ = some (.int .u8 (b.h k)) := by rw [cell_of_row _ _ _ _ _ _ hm.b]; exact hB.hist k hlt
            have cm : wr.cell? ⟨w.heap.size + 1 + 1 + 1, 20 + k, none⟩ = some (.int .u8 0) := by rw [cell_of_row _ _ _ _ _ _ hm.m]; have := hM.hist k hlt; simpa [mpart] using this
            have cf : wr.frozen? ⟨w.heap.size + 1 + 1 + 1, 20 + k, none⟩ = false := frozen_of_row _ _ _ _ _ hm.m
            have h1 := oka.h0 k
            have h2 := oka.h1 k
            have h3 := okb.h0 k
            have h4 := okb.h1 k
            have hi0 : (0 : Int) ≤ (k : Int) := by omega
            have hi1 : (k : Int) < 8 := by omega
            have e1 : IntKind.i64.wrap (a.h k) = a.h k := IntWalk.i64_in _ ⟨by omega, by omega⟩
            have e2 : IntKind.i64.wrap (b.h k) = b.h k := IntWalk.i64_in _ ⟨by omega, by omega⟩
            have e3 : IntKind.u8.wrap (min (a.h k + b.h k) 255) = min (a.h k + b.h k) 255 := IntWalk.u8_in _ ⟨by omega, by omega⟩
            go_wp2
            go_region_held3 (fun w' => w'.cell? ⟨w.heap.size, 20 + k, none⟩ = some (.int .u8 (a.h k)) ∧ w'.cell? ⟨w.heap.size + 1, 20 + k, none⟩ = some (.int .u8 (b.h k))) (first | (exact ⟨cell_set_drew (by omega) (by assumption), cell_set_drew (by omega) (by assumption)⟩) | go_keep) ((go_at_call 63; refine (sumUpTo_any _ _ _ _ (by omega) (by omega) (by omega) (by omega)).mono ?_; rintro e w' ⟨rfl, rfl⟩))
            go_wp2
            go_roundw
            case rel =>
              repeat apply Exists.intro
              exact ⟨⟨k + 1, _, by omega, by go_num, mpart_hist hlt hM _ rfl, (hm.set _ _).drew⟩, rfl⟩
            case measure => simp [intOf]; omega
          · obtain rfl : k = 8 := by omega
            obtain ⟨Z', hz1, hz2⟩ := hm.z
            have hm' := hm.m
            have hend := mpart_end hM
            go_wp2_with (first | (refine load_sk rfl _ rfl _ rfl M _ hM hm' ?_) | (refine store_sk rfl _ _ rfl M _ rfl rfl hM hz2 hz1 ?_))
            refine bodyPost_ret (results_sk rfl _ _ _ M _ hM rfl (setRow_blk hz2)) rfl ⟨M, rfl, hend, below_setRow _ hm.below (by omega)⟩

end Go.Proofs.Ytpglbakcjihohaa

/-! What the document's Merge answers for every two sketches whose fields fit their kinds: field by field what P3 says; nothing old in memory is turned. -/
namespace Go.Proofs.Ytpglbakcjihohaa
open Go.RowKit

set_option maxHeartbeats 400000 in
theorem atMost_any (n l : Int) (w : World) :
    Calls Try.prog 40 #[.int .i64 n, .int .i64 l] w fun e w' => e = .returned (.int .i64 (min n l)) ∧ w' = w := by
  by_cases h : l < n
  · have H : Hid (min n l = l) := by show _ = _; omega
    generalize min n l = m at H ⊢
    go_enter Try.func40, Try.ntmps40
    go_wp2
    go_ret
    exact ⟨ret_int H.out.symm, rfl⟩
  · have H : Hid (min n l = n) := by show _ = _; omega
    generalize min n l = m at H ⊢
    go_enter Try.func40, Try.ntmps40
    go_wp2
    go_ret
    exact ⟨ret_int H.out.symm, rfl⟩

/-- What is known of the sketch that the document's Merge makes when k registers and h buckets are done. -/
def rpart (a b : Sk) (k h : Nat) : Sk := ⟨min (a.c + b.c) 65535, (a.s + b.s) % 4294967296, min a.l b.l, max a.g b.g, fun j => if j < k then max (a.r j) (b.r j) else a.r j, fun j => if j < h then min (a.h j + b.h j) 255 else a.h j⟩
theorem rmerge_start {a b : Sk} {A B Z M : Array Value} {w : World} {c s L G : Int} (hZ : Z.size = 28) (hM : IsSk M ⟨c, s, L, G, a.r, a.h⟩) (hc : c = min (a.c + b.c) 65535) (hs : s = (a.s + b.s) % 4294967296) (hL : L = min a.l b.l) (hG : G = max a.g b.g) :
    ∃ (k : Nat) (M' : Array Value), k ≤ 16 ∧ Value.int .i64 0 = .int .i64 k ∧ IsSk M' (rpart a b k 0) ∧
      MW w ((((w.alloc (.cells A 27)).alloc (.cells B 27)).alloc (.cells Z 27)).alloc (.cells M 27)) A B M' :=
  ⟨0, M, by omega, rfl, hM.congr hc hs hL hG (fun j _ => by simp [rpart]) (fun j _ => by simp [rpart]), MW.start hZ⟩
theorem rpart_reg {a b : Sk} {k : Nat} {M : Array Value} (hk : k < 16) (h : IsSk M (rpart a b k 0)) (v : Int) (hv : v = max (a.r k) (b.r k)) : IsSk (M.setIfInBounds (4 + k) (.int .u8 v)) (rpart a b (k + 1) 0) :=
  (h.setReg k hk v).congr rfl rfl rfl rfl (fun j hj => by
    by_cases e : j = k
    · subst e; simp [rpart, hv]
    · simp [rpart, e, show j < k + 1 ↔ j < k by omega]) (fun _ _ => rfl)
theorem rpart_reg0 {a b : Sk} {k : Nat} {M : Array Value} (h : IsSk M (rpart a b k 0)) (hv : a.r k = max (a.r k) (b.r k)) : IsSk M (rpart a b (k + 1) 0) :=
  h.congr rfl rfl rfl rfl (fun j hj => by
    by_cases e : j = k
    · subst e; simp [rpart]; omega
    · simp [rpart, show j < k + 1 ↔ j < k by omega]) (fun _ _ => rfl)
theorem rpart_hist {a b : Sk} {h : Nat} {M : Array Value} (hk : h < 8) (hM : IsSk M (rpart a b 16 h)) (v : Int) (hv : v = min (a.h h + b.h h) 255) : IsSk (M.setIfInBounds (20 + h) (.int .u8 v)) (rpart a b 16 (h + 1)) :=
  (hM.setHist h hk v).congr rfl rfl rfl rfl (fun _ _ => rfl) (fun j hj => by
    by_cases e : j = h
    · subst e; simp [rpart, hv]
    · simp [rpart, e, show j < h + 1 ↔ j < h by omega])
theorem rpart_end {a b : Sk} {M : Array Value} (hM : IsSk M (rpart a b 16 8)) : IsSk M (mrg a b) :=
  hM.congr rfl rfl rfl rfl (fun j hj => by simp [rpart, mrg, hj]) (fun j hj => by simp [rpart, mrg, hj])

set_option maxHeartbeats 4000000 in
theorem rmerge_any (a b : Sk) (A B : Array Value) (hA : IsSk A a) (hB : IsSk B b) (oka : a.Ok) (okb : b.Ok) (w : World) :
    Calls Try.prog 17 #[.agg A, .agg B] w fun e w' => ∃ M, e = .returned (.agg M) ∧ IsSk M (mrg a b) ∧ Below w.heap.size w w' := by
  have a0 := hA.get0
  have a1 := hA.get1
  have a2 := hA.get2
  have a3 := hA.get3
  have b0 := hB.get0
  have b1 := hB.get1
  have b2 := hB.get2
  have b3 := hB.get3
  have := oka.c0
  have := oka.c1
  have := okb.c0
  have := okb.c1
  have := oka.s0
  have := oka.s1
  have := okb.s0
  have := okb.s1
  have g1 := heap_alloc_new w (.cells A 27)
  by_cases hl : b.l < a.l <;> by_cases hg : a.g < b.g
  all_goals
    go_enter Try.func17, Try.ntmps17
    go_wp2_with (first | (refine alloc_sk rfl rfl ?_; intro Z hZ) | (refine load_sk rfl _ rfl _ rfl A _ hA (blk_old (blk_old g1)) ?_) | (refine store_sk_new rfl _ _ rfl A _ _ rfl rfl (by simp) hA (by assumption) ?_) | (go_at_call 40; refine (atMost_any _ _ _).mono ?_; rintro e w' ⟨rfl, rfl⟩))
    clear a0 a1 a2 a3 b0 b1 b2 b3 g1
    go_loopw [6] (fun i wr => ∃ (k : Nat) (M : Array Value), k ≤ 16 ∧ i = .int .i64 k ∧ IsSk M (rpart a b k 0) ∧ MW w wr A B M) (fun i _ => 16 - (intOf i).toNat)
    case atStart => exact rmerge_start (IsSk.size (s := Sk.zero) (by assumption)) (by first | exact (((hA.setC _).setS _).setL _).setG _ | exact ((hA.setC _).setS _).setL _ | exact ((hA.setC _).setS _).setG _ | exact (hA.setC _).setS _) rfl rfl (by first | omega | (dsimp only; omega)) (by first | omega | (dsimp only; omega))
    case round =>
      obtain ⟨k, M, hk, rfl, hM, hm⟩ := hrel
      by_cases hlt : k < 16
      · have ca : wr.cell? ⟨w.heap.size, 4 + k, none⟩ = some (.int .u8 (a.r k)) := by rw [cell_of_row _ _ _ _ _ _ hm.a]; exact hA.reg k hlt
        have cb : wr.cell? ⟨w.heap.size + 1, 4 + k, none⟩ = some (.int .u8 (b.r k)) := by rw [cell_of_row _ _ _ _ _ _ hm.b]; exact hB.reg k hlt
        have cm : wr.cell? ⟨w.heap.size + 1 + 1 + 1, 4 + k, none⟩ = some (.int .u8 (a.r k)) := by rw [cell_of_row _ _ _ _ _ _ hm.m]; have := hM.reg k hlt; simpa [rpart] using this
        have cf : wr.frozen? ⟨w.heap.size + 1 + 1 + 1, 4 + k, none⟩ = false := frozen_of_row _ _ _ _ _ hm.m
        by_cases hgt : a.r k < b.r k
        · go_wp2
          go_quiet (fail)
          go_wp2
          go_roundw
          case rel => exact ⟨k + 1, _, by omega, by go_num, rpart_reg hlt hM _ (by omega), (hm.drewN _).set _ _⟩
          case measure => simp [intOf]; omega
        · go_wp2
          go_quiet (fail)
          go_wp2
          go_roundw
          case rel => exact ⟨k + 1, M, by omega, by go_num, rpart_reg0 hM (by omega), hm.drewN _⟩
          case measure => simp [intOf]; omega
      · obtain rfl : k = 16 := by omega
        clear hk hlt
        go_wp2
        go_loopw [7] (fun i wr => ∃ (k : Nat) (M : Array Value), k ≤ 8 ∧ i = .int .i64 k ∧ IsSk M (rpart a b 16 k) ∧ MW w wr A B M) (fun i _ => 8 - (intOf i).toNat)
        case atStart => exact ⟨0, M, by omega, rfl, hM, hm⟩
        case round =>
          clear hM hm
          obtain ⟨k, M, hk, rfl, hM, hm⟩ := hrel
          by_cases hlt : k < 8
          · have ca : wr.cell? ⟨w.heap.size, 20 + k, none⟩ = some (.int .u8 (a.h k)) := by rw [cell_of_row _ _ _ _ _ _ hm.a]; exact hA.hist k hlt
            have cb : wr.cell? ⟨w.heap.size + 1, 20 + k, none⟩ = some (.int .u8 (b.h k)) := by rw [cell_of_row _ _ _ _ _ _ hm.b]; exact hB.hist k hlt
            have cm : wr.cell? ⟨w.heap.size + 1 + 1 + 1, 20 + k, none⟩ = some (.int .u8 (a.h k)) := by rw [cell_of_row _ _ _ _ _ _ hm.m]; have := hM.hist k hlt; simpa [rpart] using this
            have cf : wr.frozen? ⟨w.heap.size + 1 + 1 + 1, 20 + k, none⟩ = false := frozen_of_row _ _ _ _ _ hm.m
            have h1 := oka.h0 k
            have h2 := oka.h1 k
            have h3 := okb.h0 k
            have h4 := okb.h1 k
            have hi0 : (0 : Int) ≤ (k : Int) := by omega
            have hi1 : (k : Int) < 8 := by omega
            have e1 : IntKind.i64.wrap (a.h k) = a.h k := IntWalk.i64_in _ ⟨by omega, by omega⟩
            have e2 : IntKind.i64.wrap (b.h k) = b.h k := IntWalk.i64_in _ ⟨by omega, by omega⟩
            have e3 : IntKind.u8.wrap (min (a.h k + b.h k) 255) = min (a.h k + b.h k) 255 := IntWalk.u8_in _ ⟨by omega, by omega⟩
            have e4 : IntKind.i64.wrap (a.h k + b.h k) = a.h k + b.h k := IntWalk.i64_in _ ⟨by omega, by omega⟩
            go_wp2
            go_region_held3 (fun w' => w'.cell? ⟨w.heap.size, 20 + k, none⟩ = some (.int .u8 (a.h k)) ∧ w'.cell? ⟨w.heap.size + 1, 20 + k, none⟩ = some (.int .u8 (b.h k))) (first | (exact ⟨cell_set_drew (by omega) (by assumption), cell_set_drew (by omega) (by assumption)⟩) | go_keep) ((go_at_call 40; refine (atMost_any _ _ _).mono ?_; rintro e w' ⟨rfl, rfl⟩))
            go_wp2
            go_roundw
            case rel =>
              repeat apply Exists.intro
              exact ⟨⟨k + 1, _, by omega, by go_num, rpart_hist hlt hM _ rfl, (hm.set _ _).drew⟩, rfl⟩
            case measure => simp [intOf]; omega
          · obtain rfl : k = 8 := by omega
            obtain ⟨Z', hz1, hz2⟩ := hm.z
            have hm' := hm.m
            have hend := rpart_end hM
            go_wp2_with (first | (refine load_sk rfl _ rfl _ rfl M _ hM hm' ?_) | (refine store_sk rfl _ _ rfl M _ rfl rfl hM hz2 hz1 ?_))
            refine bodyPost_ret (results_sk rfl _ _ _ M _ hM rfl (setRow_blk hz2)) rfl ⟨M, rfl, hend, below_setRow _ hm.below (by omega)⟩

end Go.Proofs.Ytpglbakcjihohaa

/-! What tributary.Merge answers: the same as the inner Merge. -/
namespace Go.Proofs.Ytpglbakcjihohaa
open Go.RowKit

set_option maxHeartbeats 400000 in
theorem tmerge_any (a b : Sk) (A B : Array Value) (hA : IsSk A a) (hB : IsSk B b) (oka : a.Ok) (okb : b.Ok) (w : World) :
    Calls Try.prog 13 #[.agg A, .agg B] w fun e w' => ∃ M, e = .returned (.agg M) ∧ IsSk M (mrg a b) ∧ Below w.heap.size w w' := by
  have g1 := heap_alloc_new w (.cells A 27)
  have g2 := blk2 w (.cells A 27) (.cells B 27)
  go_enter Try.func13, Try.ntmps13
  go_wp2_with (first | (refine alloc_sk rfl rfl ?_; intro Z hZ; have g3 := blk3 w (.cells A 27) (.cells B 27) (.cells Z 27); have HB := bnext (below_alloc2 w (.cells A 27) (.cells B 27)) (below_alloc _ (.cells Z 27))) | (refine load_sk rfl _ rfl _ rfl A _ hA (blk_old (blk_old g1)) ?_) | (refine load_sk rfl _ rfl _ rfl B _ hB (blk_old g2) ?_) | (go_at_call 37; refine (merge_any a b A B hA hB oka okb _).mono ?_; rintro e w1 ⟨M, rfl, hM, hb⟩; replace g3 := keep hb g3; replace HB := bnext HB hb) | (refine store_sk rfl _ _ rfl M _ rfl rfl hM g3 hZ.size ?_))
  refine bodyPost_ret (results_sk rfl _ _ _ M _ hM rfl (setRow_blk g3)) rfl ⟨M, rfl, hM, below_setRow _ HB (by omega)⟩
end Go.Proofs.Ytpglbakcjihohaa

/-! What Empty, the sketch of one event, and Add answer, the program's and the document's, for every key, value and sketch. -/
namespace Go.Proofs.Ytpglbakcjihohaa
open Go.RowKit

set_option maxHeartbeats 400000 in
theorem empty_any (w : World) :
    Calls Try.prog 35 #[] w fun e w' => ∃ M, e = .returned (.agg M) ∧ IsSk M Sk.empty ∧ Below w.heap.size w w' := by
  go_enter Try.func35, Try.ntmps35
  go_wp2_with (first | (refine alloc_sk rfl rfl ?_; intro Z hZ) | (refine build_sk rfl _ rfl Sk.empty (by kernel_rfl) ?_; intro M hM) | (refine store_sk_new rfl _ _ rfl M _ _ rfl rfl (by simp) hM (by assumption) ?_))
  exact bodyPost_ret (results_sk rfl _ _ _ M _ hM rfl (heap_alloc_new _ _)) rfl ⟨M, rfl, hM, below_alloc _ _⟩
set_option maxHeartbeats 400000 in
theorem rempty_any (w : World) :
    Calls Try.prog 15 #[] w fun e w' => ∃ M, e = .returned (.agg M) ∧ IsSk M Sk.empty ∧ Below w.heap.size w w' := by
  go_enter Try.func15, Try.ntmps15
  go_wp2_with (first | (refine alloc_sk rfl rfl ?_; intro Z hZ) | (refine build_sk rfl _ rfl Sk.empty (by kernel_rfl) ?_; intro M hM) | (refine store_sk_new rfl _ _ rfl M _ _ rfl rfl (by simp) hM (by assumption) ?_))
  exact bodyPost_ret (results_sk rfl _ _ _ M _ hM rfl (heap_alloc_new _ _)) rfl ⟨M, rfl, hM, below_alloc _ _⟩
set_option maxHeartbeats 400000 in
theorem tempty_any (w : World) :
    Calls Try.prog 11 #[] w fun e w' => ∃ M, e = .returned (.agg M) ∧ IsSk M Sk.empty ∧ Below w.heap.size w w' := by
  go_enter Try.func11, Try.ntmps11
  go_wp2_with (first | (refine alloc_sk rfl rfl ?_; intro Z hZ; have g := heap_alloc_new w (.cells Z 27); have HB := below_alloc w (.cells Z 27)) | (go_at_call 35; refine (empty_any _).mono ?_; rintro e w1 ⟨M, rfl, hM, hb⟩; replace g := keep hb g; replace HB := bnext HB hb) | (refine store_sk rfl _ _ rfl M _ rfl rfl hM g hZ.size ?_))
  exact bodyPost_ret (results_sk rfl _ _ _ M _ hM rfl (setRow_blk g)) rfl ⟨M, rfl, hM, below_setRow _ HB (Nat.le_refl _)⟩

/-- The sketch of one event, its cells made one after the other. -/
theorem one_made {M : Array Value} {key : List UInt8} {v : Int} {H : Nat} (hH : Hid (hash key = H)) (hb : bkt v < 8) {z : Sk} (hM : IsSk M z) (hc : z.c = 1) (hs : z.s = v % 4294967296) (hl : z.l = v) (hg : z.g = v) (hr : ∀ k, z.r k = 0) (hh : ∀ k, z.h k = 0) :
    M[4 + H % 16]? = some (.int .u8 0) ∧ (∀ x : Value, (M.setIfInBounds (4 + H % 16) x)[20 + bkt v]? = some (.int .u8 0)) ∧
    IsSk ((M.setIfInBounds (4 + H % 16) (.int .u8 ((nts H : Int) + 1))).setIfInBounds (20 + bkt v) (.int .u8 1)) (one key v) := by
  refine ⟨?_, fun x => ?_, ?_⟩
  · rw [hM.reg _ (by omega), hr]
  · rw [Array.getElem?_setIfInBounds_ne (by omega), hM.hist _ hb, hh]
  · refine ((hM.setReg (H % 16) (by omega) _).setHist (bkt v) hb _).congr hc hs hl hg (fun k _ => ?_) (fun k _ => ?_)
    · have := hH.out
      simp only [one, this, hr]
      split <;> simp_all
    · simp only [one, hh]
set_option maxHeartbeats 1000000 in
theorem one_any (s : ByteArray) (v : Int) (w : World) (hs : s.size ≤ maxLen) (h0 : -2147483648 ≤ v) (h1 : v ≤ 2147483647) :
    Calls Try.prog 62 #[.string s, .int .i32 v] w fun e w' => ∃ M, e = .returned (.agg M) ∧ IsSk M (one s.data.toList v) ∧ Below w.heap.size w w' := by
  have hH := hash_lt s.data.toList
  have hn := nts_le (hash s.data.toList)
  have hB := bkt_lt v h1
  obtain ⟨H, HH⟩ : ∃ H, Hid (hash s.data.toList = H) := ⟨_, by unfold Hid; rfl⟩
  rw [HH.out] at hH hn
  go_enter Try.func62, Try.ntmps62
  go_wp2_with (first | (refine alloc_sk rfl rfl ?_; intro Z hZ) | (refine build_sk rfl _ rfl ⟨1, v % 4294967296, v, v, fun _ => 0, fun _ => 0⟩ (by kernel_rfl) ?_; intro M hM; obtain ⟨m4, m20, hM2⟩ := one_made HH hB hM rfl rfl rfl rfl (fun _ => rfl) (fun _ => rfl)) | (refine store_sk_new rfl _ _ rfl M _ _ rfl rfl (by simp) hM (by assumption) ?_) | (go_at_call 34; refine (hash_any s _ hs).mono ?_; rintro e w1 ⟨rfl, rfl⟩; rw [HH.out]) | (go_at_call 84; refine (register_any H _ hH).mono ?_; rintro e w1 ⟨rfl, rfl⟩) | (go_at_call 85; refine (bucket_any v _ h0 h1).mono ?_; rintro e w1 ⟨rfl, rfl⟩) | (refine load_sk rfl _ rfl _ rfl _ _ hM2 (blk2 _ _ _) ?_) | (refine store_sk rfl _ _ rfl _ _ rfl rfl hM2 (blk_old (heap_alloc_new _ _)) (IsSk.size (s := Sk.zero) (by assumption)) ?_))
  exact bodyPost_ret (results_sk rfl _ _ _ _ _ hM2 rfl (setRow_blk (blk_old (heap_alloc_new _ _)))) rfl ⟨_, rfl, hM2, below_setRow _ (below_alloc2 _ _ _) (Nat.le_refl _)⟩
set_option maxHeartbeats 1000000 in
theorem rone_any (s : ByteArray) (v : Int) (w : World) (hs : s.size ≤ maxLen) (h0 : -2147483648 ≤ v) (h1 : v ≤ 2147483647) :
    Calls Try.prog 39 #[.string s, .int .i32 v] w fun e w' => ∃ M, e = .returned (.agg M) ∧ IsSk M (one s.data.toList v) ∧ Below w.heap.size w w' := by
  have hH := hash_lt s.data.toList
  have hn := nts_le (hash s.data.toList)
  have hB := bkt_lt v h1
  obtain ⟨H, HH⟩ : ∃ H, Hid (hash s.data.toList = H) := ⟨_, by unfold Hid; rfl⟩
  rw [HH.out] at hH hn
  go_enter Try.func39, Try.ntmps39
  go_wp2_with (first | (refine alloc_sk rfl rfl ?_; intro Z hZ) | (go_at_call 15; refine (rempty_any _).mono ?_; rintro e w1 ⟨M, rfl, hM, hb⟩; have m0 := hM.get0; have m1 := hM.get1; have m2 := hM.get2; have m3 := hM.get3; have g := keep hb (heap_alloc_new _ _); have HB := bnext (below_alloc _ _) hb) | (refine store_sk_new rfl _ _ rfl M _ _ rfl rfl (by simp) hM (by assumption) ?_))
  go_at_call 14
  clear m0 m1 m2 m3
  refine (rhash_any s _ hs).mono ?_
  rintro e w2 ⟨rfl, n, hw2⟩
  rw [HH.out]
  obtain ⟨M4, hM4, g5, HB2, g6⟩ : ∃ M4, IsSk M4 ⟨1, v % 4294967296, v, v, fun _ => 0, fun _ => 0⟩ ∧ w2.heap[w1.heap.size]? = some (.cells M4 27) ∧ Below w.heap.size w w2 ∧ w2.heap[w.heap.size]? = some (.cells _ 27) :=
    ⟨_, (((hM.setC 1).setS (v % 4294967296)).setL v).setG v, by rw [hw2]; exact heap_alloc_new _ _, by rw [hw2]; exact below_drewN (bnext HB (below_alloc _ _)) n, by rw [hw2]; exact blk_old g⟩
  clear hw2 hM hZ
  obtain ⟨m4, m20, hM2⟩ := one_made HH hB hM4 rfl rfl rfl rfl (fun _ => rfl) (fun _ => rfl)
  have hne : w1.heap.size ≠ w.heap.size := by have := lt_of_blk g; omega
  have c4 : w2.cell? ⟨w1.heap.size, 4 + H % 16, none⟩ = some (.int .u8 0) := by rw [cell_of_row _ _ _ _ _ _ g5]; exact m4
  have f4 : ∀ o, w2.frozen? ⟨w1.heap.size, o, none⟩ = false := fun o => frozen_of_row _ _ _ _ _ g5
  have c20 : ∀ x, (w2.setCell ⟨w1.heap.size, 4 + H % 16, none⟩ x).cell? ⟨w1.heap.size, 20 + bkt v, none⟩ = some (.int .u8 0) := fun x => by rw [cell_of_row _ _ _ _ _ _ (heap_setCell_same _ _ _ _ _ _ g5)]; exact m20 x
  have g7 : ∀ x y, ((w2.setCell ⟨w1.heap.size, 4 + H % 16, none⟩ x).setCell ⟨w1.heap.size, 20 + bkt v, none⟩ y).heap[w1.heap.size]? = some (.cells ((M4.setIfInBounds (4 + H % 16) x).setIfInBounds (20 + bkt v) y) 27) := fun x y => heap_setCell_same _ _ _ _ _ _ (heap_setCell_same _ _ _ _ _ _ g5)
  have g8 : ∀ x y, ((w2.setCell ⟨w1.heap.size, 4 + H % 16, none⟩ x).setCell ⟨w1.heap.size, 20 + bkt v, none⟩ y).heap[w.heap.size]? = some (.cells _ 27) := fun x y => by
    rw [heap_setCell_other _ _ _ _ (by show _ ≠ w1.heap.size; omega), heap_setCell_other _ _ _ _ (by show _ ≠ w1.heap.size; omega)]; exact g6
  have HB3 : ∀ x y, Below w.heap.size w ((w2.setCell ⟨w1.heap.size, 4 + H % 16, none⟩ x).setCell ⟨w1.heap.size, 20 + bkt v, none⟩ y) := fun x y => (HB2.setCell HB.size _).setCell HB.size _
  clear g5 m4 m20 g
  go_wp2_with (first | (go_at_call 64; refine (noughts_any H _ hH).mono ?_; rintro e w9 ⟨rfl, hw9⟩; subst hw9))
  go_at_call 65
  refine (rbucket_any v _ h0 h1).mono ?_
  rintro e w8 ⟨rfl, hw8⟩
  subst hw8
  go_wp2_with (first | (refine load_sk rfl _ rfl _ rfl _ _ hM2 (by exact g7 _ _) ?_) | (refine store_sk rfl _ _ rfl _ _ rfl rfl hM2 (by exact g8 _ _) hZ.size ?_))
  exact bodyPost_ret (results_sk rfl _ _ _ _ _ hM2 rfl (setRow_blk (g8 _ _))) rfl ⟨_, rfl, hM2, below_setRow _ (HB3 _ _) (Nat.le_refl _)⟩
end Go.Proofs.Ytpglbakcjihohaa

/-! Two sketches with the same cells compare as equal; loads under a guard; Add of both sides. -/
namespace Go.Proofs.Ytpglbakcjihohaa
open Go.RowKit
set_option maxRecDepth 100000

theorem mapM_some_of {α β : Type} {f : α → Option β} : ∀ (l : List α), (∀ x ∈ l, ∃ y, f x = some y) → ∃ ys, l.mapM f = some ys
  | [], _ => ⟨[], rfl⟩
  | x :: l, h => by
    obtain ⟨y, hy⟩ := h x (by simp)
    obtain ⟨ys, hys⟩ := mapM_some_of l (fun z hz => h z (by simp [hz]))
    exact ⟨y :: ys, by simp [List.mapM_cons, hy, hys]⟩
theorem cellsOf_sk : Try.prog.cellsOf 27 = 28 := by kernel_rfl
theorem cellsOf_u16 : Try.prog.cellsOf 22 = 1 := by kernel_rfl
theorem cellsOf_u32 : Try.prog.cellsOf 23 = 1 := by kernel_rfl
theorem cellsOf_i32 : Try.prog.cellsOf 21 = 1 := by kernel_rfl
theorem cellsOf_u8 : Try.prog.cellsOf 5 = 1 := by kernel_rfl
theorem cellsOf_regs : Try.prog.cellsOf 24 = 16 := by kernel_rfl
theorem cellsOf_hist : Try.prog.cellsOf 25 = 8 := by kernel_rfl
theorem keys_int {t : TypeId} {k : IntKind} {cs : List Value} {i : Nat} {n : Int} (d : Nat) (ht : Try.prog.underlying t = some (.int k)) (h : cs[i]? = some (.int k n)) (hw : (Lit.int k n).wf = true) :
    ∃ y, Try.prog.keyLits (d + 1) t ((cs.drop i).take 1) = some y := by
  have e : (cs.drop i).take 1 = [.int k n] := by
    obtain ⟨hi, hv⟩ := List.getElem?_eq_some_iff.1 h
    rw [List.drop_eq_getElem_cons hi, hv]; simp
  rw [e]
  exact ⟨[.int k n], by simp [Program.keyLits, ht, hw]⟩
theorem keys_bytes {t : TypeId} {m o : Nat} {cs : List Value} {f : Nat → Int} (d : Nat) (ht : Try.prog.underlying t = some (.array m 5)) (hc : Try.prog.cellsOf t = m) (hl : o + m ≤ cs.length)
    (h : ∀ k, k < m → cs[o + k]? = some (.int .u8 (f k))) (h0 : ∀ k, 0 ≤ f k) (h1 : ∀ k, f k ≤ 255) : ∃ y, Try.prog.keyLits (d + 2) t ((cs.drop o).take m) = some y := by
  obtain ⟨ys, hys⟩ := mapM_some_of (f := fun i => Try.prog.keyLits (d + 1) 5 ((((cs.drop o).take m).drop (i * Try.prog.cellsOf 5)).take (Try.prog.cellsOf 5))) (List.range m) (fun i hi => by
    simp only [cellsOf_u8, Nat.mul_one]
    have hi' : i < m := by simpa using hi
    refine keys_int (k := .u8) (n := f i) d Try.underlying5 ?_ ?_
    · rw [List.getElem?_take, if_pos hi', List.getElem?_drop]; exact h i hi'
    · have := h0 i; have := h1 i
      simp [Lit.wf, IntKind.min, IntKind.max, IntKind.signed, IntKind.bits]; omega)
  refine ⟨ys.flatten, ?_⟩
  have hlen : ((cs.drop o).take m).length = Try.prog.cellsOf t := by rw [hc]; simp; omega
  rw [show d + 2 = (d + 1) + 1 from rfl]
  unfold Program.keyLits
  rw [ht]
  simp only [hlen, if_true, hys, Option.map_some]
theorem keys_sk {A : Array Value} {s : Sk} (hA : IsSk A s) (ok : s.Ok) : ∃ la, Try.prog.keyLits 3 27 A.toList = some la := by
  have hl : A.toList.length = 28 := by simpa using hA.size
  have h0 := ok.c0; have h1 := ok.c1; have h2 := ok.s0; have h3 := ok.s1; have h4 := ok.l0; have h5 := ok.l1; have h6 := ok.g0; have h7 := ok.g1
  obtain ⟨y0, k0⟩ := keys_int (cs := A.toList) (n := s.c) (k := .u16) (i := 0) 1 Try.underlying22 (by simpa using hA.get0) (by simp [Lit.wf, IntKind.min, IntKind.max, IntKind.signed, IntKind.bits]; omega)
  obtain ⟨y1, k1⟩ := keys_int (cs := A.toList) (n := s.s) (k := .u32) (i := 1) 1 Try.underlying23 (by simpa using hA.get1) (by simp [Lit.wf, IntKind.min, IntKind.max, IntKind.signed, IntKind.bits]; omega)
  obtain ⟨y2, k2⟩ := keys_int (cs := A.toList) (n := s.l) (k := .i32) (i := 2) 1 Try.underlying21 (by simpa using hA.get2) (by simp [Lit.wf, IntKind.min, IntKind.max, IntKind.signed, IntKind.bits]; omega)
  obtain ⟨y3, k3⟩ := keys_int (cs := A.toList) (n := s.g) (k := .i32) (i := 3) 1 Try.underlying21 (by simpa using hA.get3) (by simp [Lit.wf, IntKind.min, IntKind.max, IntKind.signed, IntKind.bits]; omega)
  obtain ⟨y4, k4⟩ := keys_bytes (o := 4) (f := s.r) 0 Try.underlying24 cellsOf_regs (cs := A.toList) (by omega) (fun k hk => by simpa using hA.reg k hk) ok.r0 ok.r1
  obtain ⟨y5, k5⟩ := keys_bytes (o := 20) (f := s.h) 0 Try.underlying25 cellsOf_hist (cs := A.toList) (by omega) (fun k hk => by simpa using hA.hist k hk) ok.h0 ok.h1
  refine ⟨[y0, y1, y2, y3, y4, y5].flatten, ?_⟩
  rw [show (3 : Nat) = 2 + 1 from rfl]
  unfold Program.keyLits
  rw [Try.underlying27]
  simp only [hl, cellsOf_sk, cellsOf_u16, cellsOf_u32, cellsOf_i32, cellsOf_regs, cellsOf_hist, List.mapM_cons, List.mapM_nil, k0, k1, k2, k3, k4, k5]
  simp
theorem eqAt_sk : EqAt Try.prog 10000 27 := run_equalIn_deep 9997 3 27 (by kernel_rfl)
theorem eq_sk {A : Array Value} {s : Sk} (hA : IsSk A s) (ok : s.Ok) (w : World) : (Op.equalIn 10000 27 (.agg A) (.agg A)).run Try.prog w = .ok true w := by
  obtain ⟨la, ha⟩ := keys_sk hA ok
  have hf : (Value.agg A).formed Try.prog 27 = true := by
    simp only [Value.formed, Try.underlying27, hA.size, cellsOf_sk]; rfl
  obtain ⟨r, hr, hi⟩ := eqAt_sk w 3 3 (.agg A) (.agg A) la la hf hf ha ha
  rw [hr, hi.2 rfl]
theorem eql_sk {A : Array Value} {s : Sk} (hA : IsSk A s) (ok : s.Ok) (w : World) : (binOp .eql 27 (.agg A) (.agg A)).run Try.prog w = .ok (.bool true) w := by
  rw [run_eql_struct, eq_sk hA ok]; rfl
theorem neq_sk {A : Array Value} {s : Sk} (hA : IsSk A s) (ok : s.Ok) (w : World) : (binOp .neq 27 (.agg A) (.agg A)).run Try.prog w = .ok (.bool false) w := by
  rw [run_neq_struct, eq_sk hA ok]; rfl
theorem guard_sk : Try.prog.eqGuardType Try.prog.depth 27 = false := by kernel_rfl

section
variable {ops : Array Oper} {rest : List Oper} {o : Oper} {a : Act} {w : World} {Q : Exit → Act → World → Prop}
/-- A whole sketch loaded under a guard that holds. -/
theorem load_sk_g (hw : Region.wanted o (yielded ops a.tmps) = true) (x : Operand) (ho : o.op = .load 27 x) (g : Nat) (hx : a.eval x = .pointer (some ⟨g, 0, none⟩)) (A : Array Value) (s : Sk) (hA : IsSk A s)
    (hg : w.heap[g]? = some (.cells A 27)) (h : wpList Try.prog ops Q rest (a.put o.dst (.agg A)) w) : wpList Try.prog ops Q (o :: rest) a w :=
  wpList_step fun _ hK => by
    rw [if_pos hw]
    exact wp_load_row _ x ho g hx _ A (0, 0) _ hg Try.underlying27 rfl (info_sk hA) (hK _ _ h)
/-- Two sketches of the same cells compared, under a guard that holds. -/
theorem eql_sk_g (hw : Region.wanted o (yielded ops a.tmps) = true) (x y : Operand) (t' : TypeId) (ho : o.op = .binOp .eql 27 x y t') (A : Array Value) (s : Sk) (hA : IsSk A s) (ok : s.Ok) (hx : a.eval x = .agg A) (hy : a.eval y = .agg A)
    (h : wpList Try.prog ops Q rest (a.put o.dst (.bool true)) w) : wpList Try.prog ops Q (o :: rest) a w :=
  wpList_step fun _ hK => by
    rw [if_pos hw]
    unfold Oper.wp execOp
    simp only [ho, hx, hy, Sem.run_bind, run_eqGuard_agg w .eql _ x y A A guard_sk, Result.andThen_ok, eql_sk hA ok, Sem.run_pure]
    exact hK _ _ h
theorem neq_sk_g (hw : Region.wanted o (yielded ops a.tmps) = true) (x y : Operand) (t' : TypeId) (ho : o.op = .binOp .neq 27 x y t') (A : Array Value) (s : Sk) (hA : IsSk A s) (ok : s.Ok) (hx : a.eval x = .agg A) (hy : a.eval y = .agg A)
    (h : wpList Try.prog ops Q rest (a.put o.dst (.bool false)) w) : wpList Try.prog ops Q (o :: rest) a w :=
  wpList_step fun _ hK => by
    rw [if_pos hw]
    unfold Oper.wp execOp
    simp only [ho, hx, hy, Sem.run_bind, run_eqGuard_agg w .neq _ x y A A guard_sk, Result.andThen_ok, neq_sk hA ok, Sem.run_pure]
    exact hK _ _ h
end

set_option maxHeartbeats 400000 in
theorem add_any (z : Sk) (A : Array Value) (hA : IsSk A z) (ok : z.Ok) (s : ByteArray) (v : Int) (w : World) (hs : s.size ≤ maxLen) (h0 : -2147483648 ≤ v) (h1 : v ≤ 2147483647) :
    Calls Try.prog 36 #[.agg A, .string s, .int .i32 v] w fun e w' => ∃ M, e = .returned (.agg M) ∧ IsSk M (mrg z (one s.data.toList v)) ∧ Below w.heap.size w w' := by
  have ok1 := one_ok s.data.toList v h0 h1
  go_enter Try.func36, Try.ntmps36
  go_wp2_with (first | (refine alloc_sk rfl rfl ?_; intro Z hZ) | (go_at_call 62; refine (one_any s v _ hs h0 h1).mono ?_; rintro e w1 ⟨M, rfl, hM, hb1⟩; have gA := keep hb1 (blk_old (heap_alloc_new w (.cells A 27))); have gR := keep hb1 (blk2 w (.cells A 27) (.cells Z 27)); have HZ := hZ.size; have HB := bnext (below_alloc2 w (.cells A 27) (.cells Z 27)) hb1; clear hb1) | (refine store_sk_new rfl _ _ rfl M _ _ rfl rfl (by rfl) hM (by assumption) ?_) | (refine load_sk rfl _ rfl _ rfl A _ hA (by exact blk_old gA) ?_) | (refine load_sk rfl _ rfl _ rfl M _ hM (by exact heap_alloc_new _ _) ?_) | (go_at_call 37; refine (merge_any z _ A M hA hM ok ok1 _).mono ?_; rintro e w2 ⟨R, rfl, hR, hb2⟩; replace gR := keep hb2 (blk_old gR); replace HB := bnext (bnext HB (below_alloc _ _)) hb2) | (refine store_sk rfl _ _ rfl R _ rfl rfl hR (by exact gR) HZ ?_))
  exact bodyPost_ret (results_sk rfl _ _ _ R _ hR rfl (setRow_blk gR)) rfl ⟨R, rfl, hR, below_setRow _ HB (by omega)⟩
set_option maxHeartbeats 400000 in
theorem tadd_any (z : Sk) (A : Array Value) (hA : IsSk A z) (ok : z.Ok) (s : ByteArray) (v : Int) (w : World) (hs : s.size ≤ maxLen) (h0 : -2147483648 ≤ v) (h1 : v ≤ 2147483647) :
    Calls Try.prog 12 #[.agg A, .string s, .int .i32 v] w fun e w' => ∃ M, e = .returned (.agg M) ∧ IsSk M (mrg z (one s.data.toList v)) ∧ Below w.heap.size w w' := by
  go_enter Try.func12, Try.ntmps12
  go_wp2_with (first | (refine alloc_sk rfl rfl ?_; intro Z hZ) | (refine load_sk rfl _ rfl _ rfl A _ hA (by exact blk_old (heap_alloc_new _ _)) ?_) | (go_at_call 36; refine (add_any z A hA ok s v _ hs h0 h1).mono ?_; rintro e w1 ⟨R, rfl, hR, hb1⟩; have gR := keep hb1 (blk2 w (.cells A 27) (.cells Z 27)); have HB := bnext (below_alloc2 w (.cells A 27) (.cells Z 27)) hb1) | (refine store_sk rfl _ _ rfl R _ rfl rfl hR (by exact gR) hZ.size ?_))
  exact bodyPost_ret (results_sk rfl _ _ _ R _ hR rfl (setRow_blk gR)) rfl ⟨R, rfl, hR, below_setRow _ HB (by omega)⟩
set_option maxHeartbeats 400000 in
theorem radd_any (z : Sk) (A : Array Value) (hA : IsSk A z) (ok : z.Ok) (s : ByteArray) (v : Int) (w : World) (hs : s.size ≤ maxLen) (h0 : -2147483648 ≤ v) (h1 : v ≤ 2147483647) :
    Calls Try.prog 16 #[.agg A, .string s, .int .i32 v] w fun e w' => ∃ M, e = .returned (.agg M) ∧ IsSk M (mrg z (one s.data.toList v)) ∧ Below w.heap.size w w' := by
  have ok1 := one_ok s.data.toList v h0 h1
  go_enter Try.func16, Try.ntmps16
  go_wp2_with (first | (refine alloc_sk rfl rfl ?_; intro Z hZ) | (go_at_call 39; refine (rone_any s v _ hs h0 h1).mono ?_; rintro e w1 ⟨M, rfl, hM, hb1⟩; have gA := keep hb1 (blk_old (heap_alloc_new w (.cells A 27))); have gR := keep hb1 (blk2 w (.cells A 27) (.cells Z 27)); have HZ := hZ.size; have HB := bnext (below_alloc2 w (.cells A 27) (.cells Z 27)) hb1; clear hb1) | (refine store_sk_new rfl _ _ rfl M _ _ rfl rfl (by rfl) hM (by assumption) ?_) | (refine load_sk rfl _ rfl _ rfl A _ hA (by exact blk_old gA) ?_) | (refine load_sk rfl _ rfl _ rfl M _ hM (by exact heap_alloc_new _ _) ?_) | (go_at_call 17; refine (rmerge_any z _ A M hA hM ok ok1 _).mono ?_; rintro e w2 ⟨R, rfl, hR, hb2⟩; replace gR := keep hb2 (blk_old gR); replace HB := bnext (bnext HB (below_alloc _ _)) hb2) | (refine store_sk rfl _ _ rfl R _ rfl rfl hR (by exact gR) HZ ?_))
  exact bodyPost_ret (results_sk rfl _ _ _ R _ hR rfl (setRow_blk gR)) rfl ⟨R, rfl, hR, below_setRow _ HB (by omega)⟩
end Go.Proofs.Ytpglbakcjihohaa

/-! Plain lemmas on rows of things of several cells each, laid side by side in a block that is known whole or owned; laws of the walk for them (no program is named here). -/
namespace Go.Proofs.Ytpglbakcjihohaa
open Go.RowKit

/-- Cells from an offset on, written over. -/
def lay (cur : Array Value) (o : Nat) (A : List Value) : Array Value := (cur.toList.take o ++ A ++ cur.toList.drop (o + A.length)).toArray
theorem take_lay (L A : List Value) (o s n : Nat) (hA : A.length = s) (h : o + s ≤ n) (hn : n ≤ L.length) : (L.take o ++ A ++ L.drop (o + s)).take n = (L.take n).take o ++ A ++ (L.take n).drop (o + s) := by
  have hl : (L.take o ++ A).length = o + s := by simp; omega
  rw [List.take_append, List.take_of_length_le (l := L.take o ++ A) (by omega), hl, List.take_take, Nat.min_eq_left (by omega), List.drop_take]
theorem lay_size {cur : Array Value} {o : Nat} {A : List Value} (h : o + A.length ≤ cur.size) : (lay cur o A).size = cur.size := by
  simp [lay]; omega
theorem lay_get_in {cur : Array Value} {o : Nat} {A : List Value} (h : o + A.length ≤ cur.size) {j : Nat} (hj : j < A.length) : (lay cur o A)[o + j]? = A[j]? := by
  simp only [lay, List.getElem?_toArray, List.append_assoc]
  rw [List.getElem?_append_right (by simp; omega), List.getElem?_append_left (by simp; omega)]
  congr 1; simp; omega
theorem lay_get_out {cur : Array Value} {o : Nat} {A : List Value} (h : o + A.length ≤ cur.size) {j : Nat} (hj : j < o ∨ o + A.length ≤ j) : (lay cur o A)[j]? = cur[j]? := by
  simp only [lay, List.getElem?_toArray, List.append_assoc]
  by_cases hlt : j < o
  · rw [List.getElem?_append_left (by simp; omega), List.getElem?_take, if_pos hlt]; simp
  · have hge : o + A.length ≤ j := by omega
    rw [List.getElem?_append_right (by simp; omega), List.getElem?_append_right (by simp; omega), List.getElem?_drop]
    simp only [List.length_take, Array.length_toList]
    rw [Nat.min_eq_left (by omega), show o + A.length + (j - o - A.length) = j by omega]; simp

section
variable {P : Program} {ops : Array Oper} {rest : List Oper} {o : Oper} {a : Act} {w : World} {K : Act → World → Prop} {Q : Exit → Act → World → Prop}
/-- A value of many cells into the midst of a block that is known whole. -/
theorem wp_store_lay (t : TypeId) (x y : Operand) (ho : o.op = .store t x y) (g off : Nat) (A : Array Value) (hx : a.eval x = .pointer (some ⟨g, off, none⟩)) (hy : a.eval y = .agg A)
    (te : TypeId) (cur : Array Value) (hg : w.heap[g]? = some (.cells cur te)) (hi : (P.info? t).map (·.size) = some A.size) (hf : off + A.size ≤ cur.size) (h1 : A.all (·.oneCell') = true)
    (h : K (a.put o.dst undef) (w.setRow g (lay cur off A.toList))) : o.wp P a w K Q := by
  have hst := run_storeCells_at P g off te A.toList 0 cur w hg (by simpa using hf) (fun v hv => (Array.all_eq_true_iff_forall_mem.1 h1) v (by simpa using hv))
  simp only [Nat.add_zero] at hst
  have hrun : (storeVar t ⟨g, off, none⟩ (.agg A)).run P w = .ok () (w.setRow g (lay cur off A.toList)) := by
    cases hq : P.info? t with
    | none => simp [hq] at hi
    | some i =>
      have hs : A.size = i.size := by simp [hq] at hi; omega
      simp [storeVar, sizeOf, typeInfo, hq, Value.cells, hs, hst, lay]
  unfold Oper.wp execOp
  simp only [ho, hx, hy, Instr.storeAt, Instr.sureAddr, Sem.run_bind, Sem.run_pure, Result.andThen_ok, hrun]
  exact h
theorem wpList_store_lay (hgd : o.guard = none) (t : TypeId) (x y : Operand) (ho : o.op = .store t x y) (g off : Nat) (A : Array Value) (hx : a.eval x = .pointer (some ⟨g, off, none⟩)) (hy : a.eval y = .agg A)
    (te : TypeId) (cur : Array Value) (hg : w.heap[g]? = some (.cells cur te)) (hi : (P.info? t).map (·.size) = some A.size) (hf : off + A.size ≤ cur.size) (h1 : A.all (·.oneCell') = true)
    (h : wpList P ops Q rest (a.put o.dst undef) (w.setRow g (lay cur off A.toList))) : wpList P ops Q (o :: rest) a w :=
  wpList_plain hgd fun _ hK => wp_store_lay t x y ho g off A hx hy te cur hg hi hf h1 (hK _ _ h)
/-- A slice literal of parts of s cells each. -/
theorem wpList_buildAggs (hgd : o.guard = none) (t e : TypeId) (len : Nat) (parts : Array (Nat × Operand)) (ho : o.op = .buildSlice t len parts) (s : Nat) (hs : 0 < s) (vs : List Value)
    (hu : P.underlying t = some (.slice e)) (hsz : (P.info? e).map (·.size) = some s) (hz : ((P.info? e).bind (·.zero)).isSome = true)
    (hparts : (parts.map fun (i, x) => (i, a.eval x)).toList = (vs.zipIdx 0).map fun x => (x.2, x.1)) (hv : ∀ v ∈ vs, v.cells.size = s) (hl : vs.length = len) (hpos : 0 < len) (hsmall : len * s ≤ 2 ^ 24)
    (h : wpList P ops Q rest (a.put o.dst (.slice (some ⟨w.heap.size, 0, none⟩) len len)) (w.alloc (.cells (vs.flatMap fun v => v.cells.toList).toArray e))) : wpList P ops Q (o :: rest) a w := by
  cases hie : P.info? e with
  | none => simp [hie] at hsz
  | some ie =>
    simp only [hie, Option.map_some, Option.some.injEq, Option.bind_some] at hsz hz
    obtain ⟨z, hzz⟩ := Option.isSome_iff_exists.1 hz
    have hp := Nat.mul_pos hpos hs
    refine wpList_buildSlice hgd t e len parts ho _ ie z hu hie hzz (by rw [hsz]; omega) (by rw [hsz]; omega) ?_ h
    rw [hparts, hsz]
    exact Great.fill_whole hs vs _ hv (by simp [hl])
/-- A builtin's copy of things of s cells each, into the head of a block that is known whole. -/
theorem run_copy_cells (w : World) (dT sT ty elem : TypeId) (g o dLen dCap : Nat) (ad : Addr) (sLen sCap s : Nat) (cur : Array Value) (t : TypeId) (cs : List Value)
    (hu : P.underlying dT = some (.slice elem)) (hs : (P.info? elem).map (·.size) = some s)
    (hg : w.heap[g]? = some (.cells cur t)) (hn : cs.length = Nat.min sLen dLen * s)
    (hsrc : ∀ j v, cs[j]? = some v → w.cell? (ad.add j) = some v) (hfit : o + cs.length ≤ cur.size) (h1 : ∀ v ∈ cs, v.oneCell' = true) :
    (Builtin.copy_ #[dT, sT] ty #[.slice (some ⟨g, o, none⟩) dLen dCap, .slice (some ad) sLen sCap]).run P w =
      .ok (goInt (Nat.min sLen dLen)) (w.setRow g (lay cur o cs)) := by
  have hl := run_loadCells_list (P := P) w ad cs hsrc
  have hst := run_storeCells_at P g o t cs 0 cur w hg (by simpa using hfit) h1
  cases hq : P.info? elem with
  | none => simp [hq] at hs
  | some i =>
    have hi : i.size = s := by simpa [hq] using hs
    simp [Builtin.copy_, run_underlying hu, Builtin.lenOf, Builtin.firstCells, sizeOf, typeInfo, hq, hi, ← hn, hl, hst, lay]
theorem run_copy_nil (w : World) (dT sT ty elem : TypeId) (d : Option Addr) (dLen dCap : Nat) (sCap s : Nat)
    (hu : P.underlying dT = some (.slice elem)) (hs : (P.info? elem).map (·.size) = some s) (sp : Option Addr) :
    (Builtin.copy_ #[dT, sT] ty #[.slice d dLen dCap, .slice sp 0 sCap]).run P w = .ok (goInt 0) w := by
  cases hq : P.info? elem with
  | none => simp [hq] at hs
  | some i =>
    cases sp <;> cases d <;> simp [Builtin.copy_, run_underlying hu, Builtin.lenOf, Builtin.firstCells, sizeOf, typeInfo, hq, loadCells, loadCellsFrom, storeCells]
theorem wpList_copy (hgd : o.guard = none) (d s : Operand) (t t' : TypeId) (ho : o.op = .call { callee := .builtin .copy, args := #[d, s], argTypes := #[t, t'] })
    (v u : Value) (hd : a.eval d = v) (hs : a.eval s = u) {v' : Value} {w' : World} (hr : (Builtin.copy_ #[t, t'] o.type #[v, u]).run P w = .ok v' w')
    (h : wpList P ops Q rest (a.put o.dst v') w') : wpList P ops Q (o :: rest) a w := by
  refine wpList_plain hgd fun _ hK => ?_
  unfold Oper.wp execOp
  simp only [ho, resolve, invoke, builtin, Sem.run_bind, Sem.run_pure, Result.andThen_ok, List.map_toArray, List.map_cons, List.map_nil, hd, hs, hr]
  exact hK _ _ h
end

/-! ### Things of several cells -/
structure Cl (α : Type) where
  cells : α → List Value
  size : Nat
  pos' : 0 < size
  len' : ∀ x, (cells x).length = size
  one' : ∀ x, ∀ v ∈ cells x, v.oneCell' = true
theorem Cl.pos {α : Type} {C : Cl α} : 0 < C.size := C.pos'
theorem Cl.len {α : Type} {C : Cl α} (x : α) : (C.cells x).length = C.size := C.len' x
theorem Cl.one {α : Type} {C : Cl α} (x : α) : ∀ v ∈ C.cells x, v.oneCell' = true := C.one' x
def flat {α : Type} (C : Cl α) (l : List α) : List Value := l.flatMap C.cells
section
variable {α : Type} {C : Cl α}
theorem flat_nil : flat C ([] : List α) = [] := rfl
theorem flat_cons (x : α) (l : List α) : flat C (x :: l) = C.cells x ++ flat C l := rfl
theorem flat_append (l m : List α) : flat C (l ++ m) = flat C l ++ flat C m := by simp [flat]
theorem flat_one (x : α) : flat C [x] = C.cells x := by simp [flat]
theorem flat_len (l : List α) : (flat C l).length = l.length * C.size := by
  induction l with
  | nil => simp [flat_nil]
  | cons x l ih => rw [flat_cons, List.length_append, ih, Cl.len, List.length_cons, Nat.succ_mul]; omega
theorem flat_onecell (l : List α) : ∀ v ∈ flat C l, v.oneCell' = true := fun v hv => by
  obtain ⟨x, _, hx⟩ := List.mem_flatMap.1 hv
  exact Cl.one x v hx
theorem flat_get (l : List α) (i : Nat) (x : α) (h : l[i]? = some x) (j : Nat) (hj : j < C.size) : (flat C l)[i * C.size + j]? = (C.cells x)[j]? := by
  induction l generalizing i with
  | nil => simp at h
  | cons y l ih =>
    rw [flat_cons]
    cases i with
    | zero =>
      simp at h; subst h
      rw [List.getElem?_append_left (by rw [Cl.len]; omega)]; simp
    | succ i =>
      rw [List.getElem?_append_right (by rw [Cl.len, Nat.succ_mul]; omega), Cl.len]
      rw [show (i + 1) * C.size + j - C.size = i * C.size + j by rw [Nat.succ_mul]; omega]
      exact ih i (by simpa using h)
theorem flat_set (l : List α) (i : Nat) (x : α) (h : i < l.length) : flat C (l.set i x) = (flat C l).take (i * C.size) ++ C.cells x ++ (flat C l).drop (i * C.size + C.size) := by
  induction l generalizing i with
  | nil => simp at h
  | cons y l ih =>
    cases i with
    | zero =>
      rw [List.set_cons_zero, flat_cons, flat_cons]
      simp [Cl.len]
    | succ i =>
      rw [List.set_cons_succ, flat_cons, flat_cons, ih i (by simpa using h)]
      have e : (i + 1) * C.size = C.size + i * C.size := by rw [Nat.succ_mul]; omega
      rw [e, List.take_append, List.drop_append]
      rw [List.take_of_length_le (l := C.cells y) (by rw [Cl.len]; omega), List.drop_of_length_le (l := C.cells y) (by rw [Cl.len]; omega)]
      simp only [Cl.len, List.append_assoc, List.nil_append]
      rw [show C.size + i * C.size - C.size = i * C.size by omega, show C.size + i * C.size + C.size - C.size = i * C.size + C.size by omega]
theorem flat_take (l : List α) (k : Nat) : flat C (l.take k) = (flat C l).take (k * C.size) := by
  induction l generalizing k with
  | nil => simp [flat_nil]
  | cons y l ih =>
    cases k with
    | zero => simp [flat_nil]
    | succ k =>
      rw [List.take_succ_cons, flat_cons, flat_cons, ih]
      have e : (k + 1) * C.size = C.size + k * C.size := by rw [Nat.succ_mul]; omega
      rw [e, List.take_append, List.take_of_length_le (l := C.cells y) (by rw [Cl.len]; omega), Cl.len, show C.size + k * C.size - C.size = k * C.size by omega]

/-- The things l lie where the slice's address leads. -/
def RowsAt (C : Cl α) (w : World) (p : Option Addr) (l : List α) : Prop :=
  l = [] ∨ ∃ b off, p = some ⟨b, off, none⟩ ∧ b < w.heap.size ∧ ∀ i x, l[i]? = some x → w.rangeAt b (off + i * C.size) (C.cells x)
theorem RowsAt.chg {w w' : World} {p : Option Addr} {l : List α} (h : RowsAt C w p l) (hs : w.heap.size ≤ w'.heap.size) (hb : ∀ b off, p = some ⟨b, off, none⟩ → w'.heap[b]? = w.heap[b]?) : RowsAt C w' p l := by
  rcases h with h | ⟨b, off, ha, hlt, hc⟩
  · exact .inl h
  · refine .inr ⟨b, off, ha, Nat.lt_of_lt_of_le hlt hs, fun i x hx j v hv => ?_⟩
    rw [World.cell?_of_block (w := w) (hb b off ha)]; exact hc i x hx j v hv
theorem RowsAt.below {w w' : World} {p : Option Addr} {l : List α} (h : RowsAt C w p l) (hb : Below w.heap.size w w') : RowsAt C w' p l := by
  rcases h with h | ⟨b, off, ha, hlt, hc⟩
  · exact .inl h
  · refine RowsAt.chg (.inr ⟨b, off, ha, hlt, hc⟩) hb.size fun b' off' e => ?_
    rw [ha] at e; cases e; exact hb.block _ hlt
/-- The slice owns its block, and the things l lie there. -/
def Own (C : Cl α) (w : World) (base : Nat) (e : TypeId) (v : Value) (l : List α) : Prop := w.ownsRow base e (C.size) v l.length (flat C l)
theorem Own.form {w : World} {base : Nat} {e : TypeId} {v : Value} {l : List α} (h : Own C w base e v l) : ∃ p cap, v = .slice p l.length cap ∧ l.length ≤ cap ∧ cap ≤ maxLen ∧ RowsAt C w p l := by
  rcases h.2 with ⟨rfl, hn⟩ | ⟨g, cap, cur, rfl, hb, hg, hc, hm, hsz, hx⟩
  · obtain rfl := List.eq_nil_of_length_eq_zero hn
    exact ⟨none, 0, rfl, by simp, by simp [maxLen], .inl rfl⟩
  · refine ⟨_, cap, rfl, hc, hm, .inr ⟨g, 0, rfl, lt_of_blk hg, fun i x hi j v hv => ?_⟩⟩
    have hj : j < C.size := by rw [← Cl.len x]; exact (List.getElem?_eq_some_iff.1 hv).1
    rw [cell_of_row w g _ cur e (0, 0) hg]
    have e1 := flat_get l i x hi j hj
    rw [hv, ← hx, List.getElem?_take] at e1
    split at e1
    · rw [Nat.zero_add]; simpa using e1
    · cases e1
theorem Own.nil (w : World) (base : Nat) (e : TypeId) : Own C w base e (.slice none 0 0) ([] : List α) := by
  have := World.ownsRow_nil w base e (C.size)
  simpa [Own, flat_nil] using this
theorem Own.mono {w : World} {base base' : Nat} {e : TypeId} {v : Value} {l : List α} (h : Own C w base e v l) (hb : base' ≤ base) : Own C w base' e v l :=
  ⟨h.1, h.2.imp_right fun ⟨g, cap, cur, hv, hg, r⟩ => ⟨g, cap, cur, hv, Nat.le_trans hb hg, r⟩⟩
theorem Own.chg {w w' : World} {base : Nat} {e : TypeId} {v : Value} {l : List α} (h : Own C w base e v l) (hb : ∀ k, v.ownBlock = some k → w'.heap[k]? = w.heap[k]?) : Own C w' base e v l := by
  refine ⟨h.1, ?_⟩
  rcases h.2 with hn | ⟨g, cap, cur, rfl, hg, hgg, r⟩
  · exact .inl hn
  · exact .inr ⟨g, cap, cur, rfl, hg, by rw [hb g (by simp [Value.ownBlock])]; exact hgg, r⟩
theorem Own.below {w w' : World} {base : Nat} {e : TypeId} {v : Value} {l : List α} (h : Own C w base e v l) (hb : Below w.heap.size w w') : Own C w' base e v l :=
  h.chg fun k hk => hb.block k (World.ownsRow.lt h k hk).2
theorem Own.lt {w : World} {base : Nat} {e : TypeId} {v : Value} {l : List α} (h : Own C w base e v l) (k : Nat) (hk : v.ownBlock = some k) : base ≤ k ∧ k < w.heap.size := World.ownsRow.lt h k hk
/-- One thing of an owned row is written over. -/
theorem Own.set {w : World} {base : Nat} {e : TypeId} {g n cap : Nat} {l : List α} (h : Own C w base e (.slice (some ⟨g, 0, none⟩) n cap) l) (i : Nat) (x : α) (hi : i < l.length) :
    ∃ cur, w.heap[g]? = some (.cells cur e) ∧ i * C.size + C.size ≤ cur.size ∧ Own C (w.setRow g (lay cur (i * C.size) (C.cells x))) base e (.slice (some ⟨g, 0, none⟩) n cap) (l.set i x) := by
  rcases h.2 with ⟨hv, _⟩ | ⟨g', cap', cur, hv, hb, hg, hc, hm, hsz, hx⟩
  · cases hv
  · cases hv
    have h1 : i * C.size + C.size ≤ l.length * C.size := by rw [← Nat.succ_mul]; exact Nat.mul_le_mul_right _ hi
    have h2 : l.length * C.size ≤ cap * C.size := Nat.mul_le_mul_right _ hc
    have hfit : i * C.size + C.size ≤ cur.size := by rw [hsz]; omega
    refine ⟨cur, hg, hfit, ?_, .inr ⟨g, cap, lay cur (i * C.size) (C.cells x), ?_, hb, setRow_heap w g cur _ e _ hg, ?_, hm, ?_, ?_⟩⟩
    · rw [flat_len, List.length_set]
    · simp
    · simpa using hc
    · rw [lay_size (by rw [Cl.len]; exact hfit)]; exact hsz
    · rw [flat_set l i x hi, ← hx, List.length_set]
      simp only [lay, Cl.len]
      exact take_lay _ _ _ _ _ (Cl.len x) h1 (by simp; omega)

/-! ### Laws of the walk for slices of such things -/
/-- What the laws ask of a slice's type t, its elements' type e. -/
structure SlT (P : Program) {α : Type} (C : Cl α) (t e : TypeId) (bytes : Nat) : Prop where
  und : P.underlying t = some (.slice e)
  info : (P.info? e).map (fun i => (i.size, i.bytes, i.zero.map (·.cells.size))) = some (C.size, bytes, some (C.size))
theorem SlT.get {P : Program} {t e : TypeId} {bytes : Nat} (h : SlT P C t e bytes) : ∃ i z, P.info? e = some i ∧ i.zero = some z ∧ i.size = C.size ∧ i.bytes = bytes ∧ z.cells.size = C.size := by
  have hh := h.info
  cases hq : P.info? e with
  | none => simp [hq] at hh
  | some i =>
    simp only [hq, Option.map_some, Option.some.injEq, Prod.mk.injEq] at hh
    obtain ⟨h1, h2, h3⟩ := hh
    cases hz : i.zero with
    | none => simp [hz] at h3
    | some z => exact ⟨i, z, rfl, hz, h1, h2, by simpa [hz] using h3⟩
theorem SlT.size {P : Program} {t e : TypeId} {bytes : Nat} (h : SlT P C t e bytes) : (P.info? e).map (·.size) = some (C.size) := by
  obtain ⟨i, z, h1, _, h3, _⟩ := h.get; simp [h1, h3]
theorem SlT.zero {P : Program} {t e : TypeId} {bytes : Nat} (h : SlT P C t e bytes) : ((P.info? e).bind (·.zero)).isSome = true := by
  obtain ⟨i, z, h1, h2, _⟩ := h.get; simp [h1, h2]
/-- 'append(s, ..)' onto a slice that owns its row, or is nil. -/
theorem run_append_cl {P : Program} {t e : TypeId} {bytes : Nat} (T : SlT P C t e bytes) (ty : TypeId) (w : World) (base : Nat) (v : Value) (l : List α) (hown : Own C w base e v l)
    (p : Option Addr) (m c : Nat) (ms : List α) (hm : ms.length = m) (hg : RowsAt C w p ms) (hpos : 0 < m) (h63 : l.length + m ≤ maxLen) (hby : (l.length + m) * bytes ≤ 140737488355328) (hbase : base ≤ w.heap.size) :
    ∃ v' w', (Builtin.append_ #[t, t] ty #[v, .slice p m c]).run P w = .ok v' w' ∧ Own C w' base e v' (l ++ ms) ∧ Own C w' base e v l ∧ w.grownBy w' v.ownBlock ∧ (v'.ownBlock = v.ownBlock ∨ v'.ownBlock = some w.heap.size ∧ w.grownBy w' none) ∧ ∃ g cap, v' = .slice (some ⟨g, 0, none⟩) (l ++ ms).length cap := by
  subst hm
  obtain ⟨i, z, h1, h2, h3, h4, h5⟩ := T.get
  rcases hg with rfl | ⟨b, off, rfl, hlt, hc⟩
  · simp at hpos
  · have hcell : ∀ j u, (flat C ms)[j]? = some u → w.cell? ((⟨b, off, none⟩ : Addr).add j) = some u := fun j u hu => by
      have hj : j < ms.length * C.size := by rw [← flat_len]; exact (List.getElem?_eq_some_iff.1 hu).1
      have hs := Cl.pos (C := C)
      have hq : j / C.size < ms.length := Nat.div_lt_of_lt_mul (by rw [Nat.mul_comm]; exact hj)
      have hr := Nat.mod_lt j hs
      have hd : j / C.size * C.size + j % C.size = j := by rw [Nat.mul_comm]; exact Nat.div_add_mod _ _
      have e1 := flat_get ms (j / C.size) ms[j / C.size] (List.getElem?_eq_getElem hq) (j % C.size) hr
      rw [hd, hu] at e1
      have := hc (j / C.size) _ (List.getElem?_eq_getElem hq) (j % C.size) u e1.symm
      rw [Addr.add_mid]
      rw [show off + j / C.size * C.size + j % C.size = off + j by omega] at this
      exact this
    obtain ⟨v', w', hr, h6, h7, h8, h9⟩ := run_append_own_at (P := P) w base t ty e i z (C.size) bytes T.und h1 h2 h3 h4 h5 Cl.pos v l.length (flat C l) hown ⟨b, off, none⟩ ms.length c (flat C ms) (flat_len ms) hcell (flat_onecell ms) h63 hby hbase
    obtain ⟨g, cap, hv, _, _⟩ := h6.form (by omega)
    have hold : Own C w' base e v l ∧ (v'.ownBlock = v.ownBlock ∨ v'.ownBlock = some w.heap.size ∧ w.grownBy w' none) := by
      rcases hown.2 with ⟨rfl, hn⟩ | ⟨g2, cap2, cur, rfl, hbg, hgg, hnc, hcm, hcs, htake⟩
      · refine ⟨⟨hown.1, .inl ⟨rfl, hn⟩⟩, ?_⟩
        rcases h9 with h9 | h9
        · exact .inl h9
        · exact .inr ⟨h9, h7⟩
      · by_cases hroom : l.length + ms.length ≤ cap2
        · have hfit : l.length * i.size + (flat C ms).length ≤ cur.size := by rw [flat_len, hcs, h3, ← Nat.add_mul]; exact Nat.mul_le_mul_right _ hroom
          have hr2 := run_append_room (P := P) w t ty e i T.und h1 g2 l.length cap2 cur hgg ⟨b, off, none⟩ ms.length c (flat C ms) (by rw [flat_len, h3]) hcell (flat_onecell ms) hroom hfit
          rw [hr2] at hr
          cases hr
          refine ⟨⟨hown.1, .inr ⟨g2, cap2, _, rfl, hbg, setRow_heap w g2 cur _ e _ hgg, hnc, hcm, ?_, ?_⟩⟩, .inl rfl⟩
          · simp only [List.size_toArray, List.length_append, List.length_take, List.length_drop, Array.length_toList]; omega
          · rw [h3, htake, List.append_assoc, List.take_append_of_le_length (by rw [flat_len]; exact Nat.le_refl _)]
            exact List.take_of_length_le (by rw [flat_len]; exact Nat.le_refl _)
        · have holds : ∀ j u, (flat C l)[j]? = some u → w.cell? ((⟨g2, 0, none⟩ : Addr).add j) = some u := World.ownsRow.cells hown (g := g2) rfl
          have hsmall : l.length + ms.length ≤ 9223372036854775807 := by simp only [maxLen] at h63; omega
          have hr2 := run_append_grow (P := P) w t ty e i z T.und h1 h2 ⟨g2, 0, none⟩ l.length cap2 (flat C l) (by rw [flat_len, h3]) holds ⟨b, off, none⟩ ms.length c (flat C ms) (by rw [flat_len, h3]) hcell (by omega) (by omega) (growslice_fits (by omega) (by rw [h4]; exact hby))
          rw [hr2] at hr
          cases hr
          exact ⟨hown.chg fun k hk => Below.heap_alloc w.drew _ k (World.ownsRow.lt hown k hk).2, .inr ⟨rfl, ⟨rfl, rfl, rfl, by simp, fun k hk _ => Below.heap_alloc w.drew _ k hk⟩⟩⟩
    refine ⟨v', w', hr, ?_, hold.1, h7, hold.2, g, cap, ?_⟩
    · rw [Own, flat_append, List.length_append]; exact h6
    · rw [List.length_append]; exact hv
theorem wpList_append_cl {P : Program} {ops : Array Oper} {rest : List Oper} {o : Oper} {a : Act} {w : World} {Q : Exit → Act → World → Prop} (hgd : o.guard = none) (s x : Operand) (t e : TypeId) (bytes : Nat)
    (ho : o.op = .call { callee := .builtin .append, args := #[s, x], argTypes := #[t, t] }) (T : SlT P C t e bytes) (base : Nat) (v : Value) (l : List α) (hs : a.eval s = v) (hown : Own C w base e v l)
    (p : Option Addr) (m c : Nat) (ms : List α) (hx : a.eval x = .slice p m c) (hm : ms.length = m) (hg : RowsAt C w p ms) (hpos : 0 < m) (h63 : l.length + m ≤ maxLen) (hby : (l.length + m) * bytes ≤ 140737488355328) (hbase : base ≤ w.heap.size)
    (h : ∀ v' w', Own C w' base e v' (l ++ ms) → Own C w' base e v l → w.grownBy w' v.ownBlock → (v'.ownBlock = v.ownBlock ∨ v'.ownBlock = some w.heap.size ∧ w.grownBy w' none) → (∃ g cap, v' = .slice (some ⟨g, 0, none⟩) (l ++ ms).length cap) → wpList P ops Q rest (a.put o.dst v') w') : wpList P ops Q (o :: rest) a w := by
  obtain ⟨v', w', hr, h6, h6', h7, h8, h9⟩ := run_append_cl T o.type w base v l hown p m c ms hm hg hpos h63 hby hbase
  refine wpList_plain hgd fun _ hK => ?_
  unfold Oper.wp execOp
  simp only [ho, resolve, invoke, builtin, Sem.run_bind, Sem.run_pure, Result.andThen_ok, List.map_toArray, List.map_cons, List.map_nil, hs, hx, hr]
  exact hK _ _ (h v' w' h6 h6' h7 h8 h9)
/-- A slice literal of some things: a block of its own. -/
theorem wpList_buildCl {P : Program} {ops : Array Oper} {rest : List Oper} {o : Oper} {a : Act} {w : World} {Q : Exit → Act → World → Prop} (hgd : o.guard = none) (t e : TypeId) (bytes : Nat) (T : SlT P C t e bytes) (len : Nat) (parts : Array (Nat × Operand)) (ho : o.op = .buildSlice t len parts)
    (vs : List Value) (ms : List α) (hparts : (parts.map fun (i, x) => (i, a.eval x)).toList = (vs.zipIdx 0).map fun x => (x.2, x.1)) (hv : vs.map (·.cells.toList) = ms.map C.cells) (hl : ms.length = len) (hpos : 0 < len) (hsmall : len * C.size ≤ 2 ^ 24)
    (h : RowsAt C (w.alloc (.cells (flat C ms).toArray e)) (some ⟨w.heap.size, 0, none⟩) ms → wpList P ops Q rest (a.put o.dst (.slice (some ⟨w.heap.size, 0, none⟩) len len)) (w.alloc (.cells (flat C ms).toArray e))) : wpList P ops Q (o :: rest) a w := by
  have hlv : vs.length = len := by have := congrArg List.length hv; simp at this; omega
  have hf : (vs.flatMap fun v => v.cells.toList) = flat C ms := by rw [List.flatMap_def, hv, flat, List.flatMap_def]
  refine wpList_buildAggs hgd t e len parts ho (C.size) Cl.pos vs T.und T.size T.zero hparts (fun v hm => ?_) hlv hpos hsmall ?_
  · have : v.cells.toList ∈ ms.map C.cells := by rw [← hv]; exact List.mem_map_of_mem hm
    obtain ⟨x, _, hx⟩ := List.mem_map.1 this
    have := Cl.len (C := C) x; rw [hx] at this; simpa using this
  · rw [hf]
    refine h (.inr ⟨w.heap.size, 0, rfl, by simp, fun i x hi j u hu => ?_⟩)
    rw [cell_of_row _ _ _ _ _ _ (heap_alloc_new w _)]
    have hj : j < C.size := by rw [← Cl.len (C := C) x]; exact (List.getElem?_eq_some_iff.1 hu).1
    have := flat_get ms i x hi j hj
    rw [hu] at this
    rw [Nat.zero_add]; simpa using this
theorem flat_replicate (x : α) (z : Array Value) (hz : z.toList = C.cells x) (n : Nat) : (madeCells z (n * C.size)).toList = flat C (List.replicate n x) := by
  have hzs : z.size = C.size := by have := congrArg List.length hz; rw [Cl.len] at this; simpa using this
  have hp := Cl.pos (C := C)
  apply List.ext_getElem?
  intro k
  by_cases hk : k < n * C.size
  · have hq : k / C.size < n := Nat.div_lt_of_lt_mul (by rw [Nat.mul_comm]; exact hk)
    have hr := Nat.mod_lt k hp
    have hd : k / C.size * C.size + k % C.size = k := by rw [Nat.mul_comm]; exact Nat.div_add_mod _ _
    have e1 := flat_get (List.replicate n x) (k / C.size) x (by rw [List.getElem?_replicate, if_pos hq]) (k % C.size) hr
    rw [hd] at e1
    rw [e1, ← hz]
    simp only [madeCells, Array.getElem?_toList, Array.getElem?_map]
    rw [Array.getElem?_eq_getElem (by simpa using hk)]
    simp only [Array.getElem_range, Option.map_some, hzs]
    rw [getElem!_pos z (k % C.size) (by omega), Array.getElem?_eq_getElem (by omega)]
  · rw [List.getElem?_eq_none (by simp [madeCells]; omega), List.getElem?_eq_none (by rw [flat_len, List.length_replicate]; omega)]
/-- 'make': so many things of noughts. -/
theorem wpList_make_cl {P : Program} {ops : Array Oper} {rest : List Oper} {o : Oper} {a : Act} {w : World} {Q : Exit → Act → World → Prop} (hgd : o.guard = none) (lo co : Operand) (t e : TypeId) (bytes : Nat) (T : SlT P C t e bytes) (hop : o.op = Op.makeSlice t lo co)
    (x : α) (hx : ((P.info? e).bind (·.zero)).map (·.cells.toList) = some (C.cells x)) (base : Nat) (n : Nat) (L : Int) (hl : a.eval lo = .int .i64 L) (hc : a.eval co = .int .i64 L) (hL : L = (n : Int)) (hn : n ≤ maxLen) (hby : bytes * n ≤ 281474976710656) (hbase : base ≤ w.heap.size)
    (h : ∀ w', Own C w' base e (.slice (some ⟨w.heap.size, 0, none⟩) n n) (List.replicate n x) → w.grownBy w' none → wpList P ops Q rest (a.put o.dst (.slice (some ⟨w.heap.size, 0, none⟩) n n)) w') : wpList P ops Q (o :: rest) a w := by
  obtain ⟨i, z, h1, h2, h3, h4, h5⟩ := T.get
  have hz : z.cells.toList = C.cells x := by simpa [h1, h2] using hx
  refine wpList_make_full w hgd lo co t hop base e i z (C.size) T.und h1 h2 h3 .i64 .i64 L L n hl hc hL hL (by rw [h4]; exact hby) hn hbase fun w' ho hg => h w' ?_ hg
  rw [flat_replicate x z.cells hz n] at ho
  simpa [Own] using ho
theorem setRow_setRow_eq (w : World) (g : Nat) (A : Array Value) : Below g w (w.setRow g A) := ⟨rfl, rfl, rfl, by simp, fun k hk => setRow_other w g k A (by omega)⟩
/-- 'copy' into an owned row that has room for all. -/
theorem run_copy_cl {P : Program} {t e : TypeId} {bytes : Nat} (T : SlT P C t e bytes) (ty : TypeId) (w : World) (base g n cap : Nat) (l : List α) (hown : Own C w base e (.slice (some ⟨g, 0, none⟩) n cap) l) (hn : l.length = n)
    (p : Option Addr) (m c : Nat) (ms : List α) (hm : ms.length = m) (hg : RowsAt C w p ms) (hle : m ≤ n) :
    ∃ w', (Builtin.copy_ #[t, t] ty #[.slice (some ⟨g, 0, none⟩) n cap, .slice p m c]).run P w = .ok (goInt m) w' ∧ Own C w' base e (.slice (some ⟨g, 0, none⟩) n cap) (ms ++ l.drop m) ∧ w.grownBy w' (some g) := by
  subst hm hn
  rcases hg with rfl | ⟨b, off, rfl, hlt, hc⟩
  · refine ⟨w, run_copy_nil w t t ty e _ _ _ _ _ T.und T.size p, by simpa using hown, ⟨rfl, rfl, rfl, Nat.le_refl _, fun _ _ _ => rfl⟩⟩
  · have hcell : ∀ j u, (flat C ms)[j]? = some u → w.cell? ((⟨b, off, none⟩ : Addr).add j) = some u := fun j u hu => by
      have hj : j < ms.length * C.size := by rw [← flat_len]; exact (List.getElem?_eq_some_iff.1 hu).1
      have hs := Cl.pos (C := C)
      have hq : j / C.size < ms.length := Nat.div_lt_of_lt_mul (by rw [Nat.mul_comm]; exact hj)
      have hr := Nat.mod_lt j hs
      have hd : j / C.size * C.size + j % C.size = j := by rw [Nat.mul_comm]; exact Nat.div_add_mod _ _
      have e1 := flat_get ms (j / C.size) ms[j / C.size] (List.getElem?_eq_getElem hq) (j % C.size) hr
      rw [hd, hu] at e1
      have := hc (j / C.size) _ (List.getElem?_eq_getElem hq) (j % C.size) u e1.symm
      rw [Addr.add_mid]
      rw [show off + j / C.size * C.size + j % C.size = off + j by omega] at this
      exact this
    rcases hown.2 with ⟨hv, _⟩ | ⟨g', cap', cur, hv, hb, hgg, hcp, hmx, hsz, hx⟩
    · cases hv
    · cases hv
      have h1 : ms.length * C.size ≤ l.length * C.size := Nat.mul_le_mul_right _ hle
      have h2 : l.length * C.size ≤ cap * C.size := Nat.mul_le_mul_right _ hcp
      have hmin : Nat.min ms.length l.length = ms.length := Nat.min_eq_left hle
      have hr := run_copy_cells (P := P) w t t ty e g 0 l.length cap ⟨b, off, none⟩ ms.length c (C.size) cur e (flat C ms) T.und T.size hgg (by rw [hmin, flat_len]) hcell (by rw [flat_len]; omega) (flat_onecell ms)
      rw [hmin] at hr
      refine ⟨_, hr, ⟨?_, .inr ⟨g, cap, _, ?_, hb, setRow_heap w g cur _ e _ hgg, ?_, hmx, ?_, ?_⟩⟩, ⟨rfl, rfl, rfl, by simp, fun k _ hk => setRow_other w g k _ (fun e => hk (by rw [e]))⟩⟩
      · rw [flat_len]
      · simp; omega
      · simp; omega
      · rw [lay_size (by rw [flat_len]; omega)]; exact hsz
      · have hl2 : (ms ++ l.drop ms.length).length = l.length := by simp; omega
        have hd : flat C (l.drop ms.length) = (flat C l).drop (ms.length * C.size) := by
          have e1 : flat C l = flat C (l.take ms.length) ++ flat C (l.drop ms.length) := by rw [← flat_append, List.take_append_drop]
          rw [e1, List.drop_append, List.drop_of_length_le (l := flat C (l.take ms.length)) (by rw [flat_len]; simp [Nat.min_eq_left hle]), flat_len]
          simp [Nat.min_eq_left hle]
        rw [hl2, flat_append, hd, ← hx]
        have := take_lay cur.toList (flat C ms) 0 (ms.length * C.size) (l.length * C.size) (flat_len ms) (by omega) (by simp; omega)
        simpa [lay, flat_len] using this
end
end Go.Proofs.Ytpglbakcjihohaa
