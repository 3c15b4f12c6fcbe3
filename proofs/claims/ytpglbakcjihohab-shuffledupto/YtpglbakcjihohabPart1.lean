/-
  Own texts, laid together: Plain lemmas on blocks of memory, on what a sketch is as cells, and on the numbers of P3 to P5 (no program is named here). Laws of the walk for whole sketches in memory over this translation: made, loaded, stored; the cells are a variable of which only the sketch is known. What Distinct and Rank, the program's and the document's, answer for every sketch whose fields fit their kinds: the same numbers; nothing old in memory is turned. What 'pick' and 'all' answer; what a rank is, that it rises with the part; that Distinct rises with the registers. Plain numbers of P3: the hash, the noughts ahead of the highest one, the bits that a value needs; the sketch of one event (no program is named here). What Hash, register, bucket, noughts and their like answer, the program's and the document's, for every key and every number of their kinds. What Merge, the program's and the document's, answers for every two sketches whose fields fit their kinds: field by field what P3 says; nothing old in memory is turned. What the document's Merge answers for every two sketches whose fields fit their kinds: field by field what P3 says; nothing old in memory is turned. What tributary.Merge answers: the same as the inner Merge. What Empty, the sketch of one event, and Add answer, the program's and the document's, for every key, value and sketch. Two sketches with the same cells compare as equal; loads under a guard; Add of both sides. Plain lemmas on rows of things of several cells each, laid side by side in a block that is known whole or owned; laws of the walk for them (no program is named here). An item of P6 to P13 as numbers and as cells; laws of the walk for whole items in memory, alone and in lists. 'sameItems', 'mark', 'items' and the lists with spare room, for every list of items. 'untouchedItems' and 'blotItems', and the same three for lists of numbers. Lists of numbers that are handed in, with spare room: 'roomy', 'untouched', 'blot'; IsTree, IsWidth, num, pick. The book of lists that came out: 'marked', 'reads'. Whose block is whose; the book: 'reads', 'keep'. 'keep': a list that came out is marked, and so are three longer ones made of it; all are kept in the book. 'keep': the walk.
-/
import Derived.WalkKit
import Derived.WalkSpells
import Derived.WalkLawsBesides
import Derived.Deep.WholeRow
import Derived.Test.YtpglbakcjihohabRows
import Derived.Deep.QuietTactic
import Derived.BigQuiet
import Derived.Deep.DeepCutAuto
import Derived.Deep.RegionHeld3
import Derived.DeepKeys
import Derived.Deep.AppendLies
import Derived.Deep.MidRow
import Derived.Great.BuildSlice
import Derived.OwnWalk
import Derived.Still
import Derived.StillTailTactics
set_option linter.unusedSimpArgs false
set_option linter.unusedVariables false
set_option linter.deprecated false
/-! Plain lemmas on blocks of memory, on what a sketch is as cells, and on the numbers of P3 to P5 (no program is named here). -/
namespace Go.Proofs.Ytpglbakcjihohab
open Go.RowKit

theorem lt_of_blk {w : World} {i : Nat} {b : Obj} (h : w.heap[i]? = some b) : i < w.heap.size := by
  obtain ⟨h, _⟩ := Array.getElem?_eq_some_iff.1 h; exact h
theorem keep {w w' : World} {i : Nat} {b : Obj} (hb : Below w.heap.size w w') (h : w.heap[i]? = some b) : w'.heap[i]? = some b := by
  rw [hb.block i (lt_of_blk h)]; exact h
theorem bnext {w w1 w2 : World} (h : Below w.heap.size w w1) (k : Below w1.heap.size w1 w2) : Below w.heap.size w w2 := h.trans (k.mono h.size)
theorem blk_old {w : World} {o : Obj} {i : Nat} {b : Obj} (h : w.heap[i]? = some b) : (w.alloc o).heap[i]? = some b := by
  rw [Below.heap_alloc w o i (lt_of_blk h)]; exact h
theorem below_alloc (w : World) (o : Obj) : Below w.heap.size w (w.alloc o) := (Below.refl _ _).alloc (Nat.le_refl _) o
theorem below_alloc2 (w : World) (o o' : Obj) : Below w.heap.size w ((w.alloc o).alloc o') := bnext (below_alloc w o) (below_alloc _ o')
theorem below_drewN {B : Nat} {w w' : World} (h : Below B w w') (n : Nat) : Below B w (w'.drewN n) := ⟨h.os, h.tape, h.output, h.size, h.block⟩
theorem blk2 (w : World) (o1 o2 : Obj) : ((w.alloc o1).alloc o2).heap[w.heap.size + 1]? = some o2 := by have := heap_alloc_new (w.alloc o1) o2; simpa using this
theorem blk3 (w : World) (o1 o2 o3 : Obj) : (((w.alloc o1).alloc o2).alloc o3).heap[w.heap.size + 1 + 1]? = some o3 := by have := heap_alloc_new ((w.alloc o1).alloc o2) o3; simpa using this
theorem cell_set {w : World} {b o b' o' : Nat} {v x : Value} (hne : b' ≠ b) (h : w.cell? ⟨b', o', none⟩ = some x) : (w.setCell ⟨b, o, none⟩ v).cell? ⟨b', o', none⟩ = some x := by
  rw [World.cell?_of_block (w := w) (Below.heap_setCell w ⟨b, o, none⟩ v b' hne)]; exact h
theorem cell_set_drew {w : World} {b o b' o' : Nat} {v x : Value} (hne : b' ≠ b) (h : w.cell? ⟨b', o', none⟩ = some x) : (w.setCell ⟨b, o, none⟩ v).drew.cell? ⟨b', o', none⟩ = some x := cell_set hne h
structure Sk where
  c : Int
  s : Int
  l : Int
  g : Int
  r : Nat → Int
  h : Nat → Int
def Sk.at (s : Sk) (i : Nat) : Value :=
  if i = 0 then .int .u16 s.c else if i = 1 then .int .u32 s.s else if i = 2 then .int .i32 s.l else if i = 3 then .int .i32 s.g
  else if i < 20 then .int .u8 (s.r (i - 4)) else .int .u8 (s.h (i - 20))
def Sk.cells (s : Sk) : Array Value := Array.ofFn (n := 28) fun i => s.at i
theorem Sk.size_cells (s : Sk) : s.cells.size = 28 := by simp [Sk.cells]
theorem Sk.get (s : Sk) (i : Nat) (h : i < 28) : s.cells[i]? = some (s.at i) := by simp [Sk.cells, h]
def IsSk (A : Array Value) (s : Sk) : Prop := A = s.cells
theorem IsSk.size {A : Array Value} {s : Sk} (h : IsSk A s) : A.size = 28 := by rw [show A = s.cells from h]; exact s.size_cells
theorem IsSk.reg {A : Array Value} {s : Sk} (h : IsSk A s) (k : Nat) (hk : k < 16) : A[4 + k]? = some (.int .u8 (s.r k)) := by
  rw [show A = s.cells from h, s.get _ (by omega)]; simp [Sk.at, show 4 + k ≠ 1 by omega, show 4 + k ≠ 2 by omega, show 4 + k ≠ 3 by omega, show 4 + k < 20 by omega]
/-- Every field of a sketch fits its kind. -/
structure Sk.Ok (s : Sk) : Prop where
  c0 : 0 ≤ s.c
  c1 : s.c ≤ 65535
  s0 : 0 ≤ s.s
  s1 : s.s ≤ 4294967295
  l0 : -2147483648 ≤ s.l
  l1 : s.l ≤ 2147483647
  g0 : -2147483648 ≤ s.g
  g1 : s.g ≤ 2147483647
  r0 : ∀ k, 0 ≤ s.r k
  r1 : ∀ k, s.r k ≤ 255
  h0 : ∀ k, 0 ≤ s.h k
  h1 : ∀ k, s.h k ≤ 255
theorem IsSk.hist {A : Array Value} {s : Sk} (h : IsSk A s) (k : Nat) (hk : k < 8) : A[20 + k]? = some (.int .u8 (s.h k)) := by
  rw [show A = s.cells from h, s.get _ (by omega)]; simp [Sk.at, show 20 + k ≠ 1 by omega, show 20 + k ≠ 2 by omega, show 20 + k ≠ 3 by omega, show ¬ 20 + k < 20 by omega]
def wgt (r : Int) : Int := if 32 < r then 1 else 2 ^ (32 - r).toNat
theorem wgt_bd (r : Int) (h0 : 0 ≤ r) : 1 ≤ wgt r ∧ wgt r ≤ 4294967296 := by
  unfold wgt; split
  · omega
  · have h : (32 - r).toNat ≤ 32 := by omega
    have := Nat.pow_le_pow_right (n := 2) (by omega) h
    have h1 : 1 ≤ 2 ^ (32 - r).toNat := Nat.one_le_two_pow
    have e : ((2 ^ (32 - r).toNat : Nat) : Int) = (2:Int) ^ (32 - r).toNat := by simp
    rw [← e]; omega
theorem wgt_step (q : Int) (h0 : 0 ≤ q) (h : q < 32) : wgt q = 2 * wgt (q + 1) := by
  unfold wgt
  rw [if_neg (by omega), if_neg (by omega)]
  have e : (32 - q).toNat = (32 - (q + 1)).toNat + 1 := by omega
  rw [e, Int.pow_succ]; omega
theorem wgt_one (q : Int) (h : 32 ≤ q) : wgt q = 1 := by
  unfold wgt
  by_cases e : q = 32
  · subst e; decide
  · rw [if_pos (by omega)]
theorem wgt_part (p q W : Int) (hp : 1 ≤ p) (h0 : 0 ≤ q) (h : p * wgt q = W) : p ≤ W := by
  have h1 := (wgt_bd q h0).1
  have := Int.mul_le_mul_of_nonneg_left h1 (show 0 ≤ p by omega)
  omega
theorem wgt_next (p q W : Int) (h0 : 0 ≤ q) (h : p * wgt q = W) (hq : q < 32) : (2 * p) * wgt (q + 1) = W := by
  rw [wgt_step q h0 hq] at h
  rw [← h, Int.mul_comm 2 p, Int.mul_assoc]
theorem quo_bd (d : Int) (h : 1 ≤ d) : 0 ≤ 738734374912 / d ∧ 738734374912 / d ≤ 738734374912 :=
  ⟨Int.ediv_nonneg (by omega) (by omega), Int.ediv_le_self _ (by omega)⟩
def wsum (s : Sk) : Nat → Int | 0 => 0 | k + 1 => wsum s k + wgt (s.r k)
theorem wsum_bd (s : Sk) (hr : ∀ k, 0 ≤ s.r k) (k : Nat) : (k : Int) ≤ wsum s k ∧ wsum s k ≤ 4294967296 * (k : Int) := by
  induction k with
  | zero => simp [wsum]
  | succ k ih => have := wgt_bd (s.r k) (hr k); simp only [wsum]; omega
def hsum (s : Sk) : Nat → Int | 0 => 0 | k + 1 => hsum s k + s.h k
theorem hsum_succ (s : Sk) (k : Nat) : hsum s (k + 1) = hsum s k + s.h k := rfl
theorem hsum_bd (s : Sk) (h0 : ∀ k, 0 ≤ s.h k) (h1 : ∀ k, s.h k ≤ 255) (k : Nat) : 0 ≤ hsum s k ∧ hsum s k ≤ 255 * (k : Int) := by
  induction k with
  | zero => simp [hsum]
  | succ k ih => have := h0 k; have := h1 k; simp only [hsum]; omega
def clamp (p : Int) : Int := if p < 0 then 0 else if 1000 < p then 1000 else p
theorem clamp_bd (p : Int) : 0 ≤ clamp p ∧ clamp p ≤ 1000 := by unfold clamp; omega
def rkGo (s : Sk) (need : Int) (b : Nat) : Nat → Nat
  | 0 => 7
  | n + 1 => if need ≤ 1000 * hsum s (b + 1) then b else rkGo s need (b + 1) n
def rank (s : Sk) (p : Int) : Nat := rkGo s (clamp p * hsum s 8) 0 7
theorem need_bd (a b : Int) (h0 : 0 ≤ a) (h1 : a ≤ 1000) (h2 : 0 ≤ b) (h3 : b ≤ 2040) : 0 ≤ a * b ∧ a * b ≤ 2040000 := by
  have := Int.mul_le_mul h1 h3 h2 (by omega)
  have := Int.mul_nonneg h0 h2
  omega
theorem rk_hit (s : Sk) (need : Int) (k : Nat) (hk : k < 7) (h : need ≤ 1000 * hsum s (k + 1)) : rkGo s need k (7 - k) = k := by
  rw [show 7 - k = (6 - k) + 1 by omega, rkGo, if_pos h]
theorem rk_miss (s : Sk) (need : Int) (k : Nat) (hk : k < 7) (h : ¬ need ≤ 1000 * hsum s (k + 1)) : rkGo s need k (7 - k) = rkGo s need (k + 1) (7 - (k + 1)) := by
  rw [show 7 - k = (6 - k) + 1 by omega, rkGo, if_neg h, show 6 - k = 7 - (k + 1) by omega]

/-! ### Merging -/
def mrg (a b : Sk) : Sk := ⟨min (a.c + b.c) 65535, (a.s + b.s) % 4294967296, min a.l b.l, max a.g b.g, fun k => max (a.r k) (b.r k), fun k => min (a.h k + b.h k) 255⟩
theorem mrg_ok {a b : Sk} (x : a.Ok) (y : b.Ok) : (mrg a b).Ok :=
  ⟨by have := x.c0; have := y.c0; simp only [mrg]; omega, by simp only [mrg]; omega, by simp only [mrg]; omega, by simp only [mrg]; omega,
   by have := x.l0; have := y.l0; simp only [mrg]; omega, by have := x.l1; have := y.l1; simp only [mrg]; omega, by have := x.g0; have := y.g0; simp only [mrg]; omega, by have := x.g1; have := y.g1; simp only [mrg]; omega,
   fun k => by have := x.r0 k; have := y.r0 k; simp only [mrg]; omega, fun k => by have := x.r1 k; have := y.r1 k; simp only [mrg]; omega,
   fun k => by have := x.h0 k; have := y.h0 k; simp only [mrg]; omega, fun k => by simp only [mrg]; omega⟩
theorem IsSk.congr {A : Array Value} {s t : Sk} (h : IsSk A s) (hc : s.c = t.c) (hs : s.s = t.s) (hl : s.l = t.l) (hg : s.g = t.g) (hr : ∀ k, k < 16 → s.r k = t.r k) (hh : ∀ k, k < 8 → s.h k = t.h k) : IsSk A t := by
  rw [show A = s.cells from h]
  show s.cells = t.cells
  apply Array.ext_getElem?
  intro i
  by_cases hi : i < 28
  · rw [s.get i hi, t.get i hi]
    unfold Sk.at
    rw [hc, hs, hl, hg]
    by_cases h4 : i < 4
    · have : i = 0 ∨ i = 1 ∨ i = 2 ∨ i = 3 := by omega
      rcases this with rfl | rfl | rfl | rfl <;> rfl
    · by_cases h20 : i < 20
      · rw [hr (i - 4) (by omega)]; simp [show i ≠ 0 by omega, show i ≠ 1 by omega, show i ≠ 2 by omega, show i ≠ 3 by omega, h20]
      · rw [hh (i - 20) (by omega)]; simp [show i ≠ 0 by omega, show i ≠ 1 by omega, show i ≠ 2 by omega, show i ≠ 3 by omega, h20]
  · rw [Array.getElem?_eq_none (by rw [s.size_cells]; omega), Array.getElem?_eq_none (by rw [t.size_cells]; omega)]
theorem IsSk.set {A : Array Value} {s t : Sk} (h : IsSk A s) (i : Nat) (v : Value) (hi : i < 28) (hv : t.at i = v) (ho : ∀ j, j < 28 → j ≠ i → t.at j = s.at j) : IsSk (A.setIfInBounds i v) t := by
  rw [show A = s.cells from h]
  show s.cells.setIfInBounds i v = t.cells
  apply Array.ext_getElem?
  intro j
  rw [Array.getElem?_setIfInBounds]
  by_cases hj : j < 28
  · rw [t.get j hj]
    by_cases e : i = j
    · subst e; rw [if_pos rfl, if_pos (by rw [s.size_cells]; omega), hv]
    · rw [if_neg e, s.get j hj, ho j hj (fun h => e h.symm)]
  · rw [Array.getElem?_eq_none (xs := t.cells) (by rw [t.size_cells]; omega)]
    split
    · rw [if_neg (by rw [s.size_cells]; omega)]
    · rw [Array.getElem?_eq_none (by rw [s.size_cells]; omega)]
theorem Sk.at_reg (s : Sk) (k : Nat) (hk : k < 16) : s.at (4 + k) = .int .u8 (s.r k) := by
  simp [Sk.at, show 4 + k ≠ 1 by omega, show 4 + k ≠ 2 by omega, show 4 + k ≠ 3 by omega, show 4 + k < 20 by omega]
theorem Sk.at_hist (s : Sk) (k : Nat) : s.at (20 + k) = .int .u8 (s.h k) := by
  simp [Sk.at, show 20 + k ≠ 1 by omega, show 20 + k ≠ 2 by omega, show 20 + k ≠ 3 by omega, show ¬ 20 + k < 20 by omega]
/-- One register, or one bucket, written. -/
theorem IsSk.setReg {A : Array Value} {s : Sk} (h : IsSk A s) (k : Nat) (hk : k < 16) (v : Int) : IsSk (A.setIfInBounds (4 + k) (.int .u8 v)) { s with r := fun j => if j = k then v else s.r j } :=
  h.set (4 + k) _ (by omega) (by rw [Sk.at_reg _ k hk]; simp) fun j hj hne => by
    unfold Sk.at
    by_cases h20 : j < 20
    · by_cases h4 : j < 4
      · have : j = 0 ∨ j = 1 ∨ j = 2 ∨ j = 3 := by omega
        rcases this with rfl | rfl | rfl | rfl <;> rfl
      · simp [show j ≠ 0 by omega, show j ≠ 1 by omega, show j ≠ 2 by omega, show j ≠ 3 by omega, h20, show j - 4 ≠ k by omega]
    · simp [h20]
theorem IsSk.setHist {A : Array Value} {s : Sk} (h : IsSk A s) (k : Nat) (hk : k < 8) (v : Int) : IsSk (A.setIfInBounds (20 + k) (.int .u8 v)) { s with h := fun j => if j = k then v else s.h j } :=
  h.set (20 + k) _ (by omega) (by rw [Sk.at_hist]; simp) fun j hj hne => by
    unfold Sk.at
    by_cases h20 : j < 20
    · simp [h20]
    · simp [show j ≠ 0 by omega, show j ≠ 1 by omega, show j ≠ 2 by omega, show j ≠ 3 by omega, h20, show j - 20 ≠ k by omega]
theorem IsSk.setC {A : Array Value} {s : Sk} (h : IsSk A s) (v : Int) : IsSk (A.setIfInBounds 0 (.int .u16 v)) { s with c := v } :=
  h.set 0 _ (by omega) rfl fun j hj hne => by unfold Sk.at; simp [hne]
theorem IsSk.setS {A : Array Value} {s : Sk} (h : IsSk A s) (v : Int) : IsSk (A.setIfInBounds 1 (.int .u32 v)) { s with s := v } :=
  h.set 1 _ (by omega) rfl fun j hj hne => by unfold Sk.at; simp [hne]
theorem IsSk.setL {A : Array Value} {s : Sk} (h : IsSk A s) (v : Int) : IsSk (A.setIfInBounds 2 (.int .i32 v)) { s with l := v } :=
  h.set 2 _ (by omega) rfl fun j hj hne => by unfold Sk.at; simp [hne]
theorem IsSk.setG {A : Array Value} {s : Sk} (h : IsSk A s) (v : Int) : IsSk (A.setIfInBounds 3 (.int .i32 v)) { s with g := v } :=
  h.set 3 _ (by omega) rfl fun j hj hne => by unfold Sk.at; simp [hne]
theorem IsSk.get0 {A : Array Value} {s : Sk} (h : IsSk A s) : A[0]? = some (.int .u16 s.c) := by rw [show A = s.cells from h, s.get _ (by omega)]; rfl
theorem IsSk.get1 {A : Array Value} {s : Sk} (h : IsSk A s) : A[1]? = some (.int .u32 s.s) := by rw [show A = s.cells from h, s.get _ (by omega)]; rfl
theorem IsSk.get2 {A : Array Value} {s : Sk} (h : IsSk A s) : A[2]? = some (.int .i32 s.l) := by rw [show A = s.cells from h, s.get _ (by omega)]; rfl
theorem IsSk.get3 {A : Array Value} {s : Sk} (h : IsSk A s) : A[3]? = some (.int .i32 s.g) := by rw [show A = s.cells from h, s.get _ (by omega)]; rfl
theorem IsSk.one {A : Array Value} {s : Sk} (h : IsSk A s) : A.all (·.oneCell') = true := by
  rw [Array.all_eq_true]
  intro i hi
  have hi' : i < 28 := by rw [← h.size]; exact hi
  have e : A[i]? = some (s.at i) := by rw [show A = s.cells from h]; exact s.get i hi'
  rw [Array.getElem?_eq_getElem hi] at e
  rw [Option.some.inj e]
  unfold Sk.at
  repeat' split
  all_goals rfl

/-! ### Whole variables: laws at the list of a region's operations, the cells a variable -/
section
variable {P : Program} {ops : Array Oper} {rest : List Oper} {o : Oper} {a : Act} {w : World} {Q : Exit → Act → World → Prop}
theorem wpList_alloc_z (hgd : o.guard = none) (t : TypeId) (ho : o.op = .alloc t) (z : Array Value) (hz : (P.info? t).bind (·.zero) = some (.agg z))
    (h : wpList P ops Q rest (a.put o.dst (.pointer (some ⟨w.heap.size, 0, none⟩))) (w.alloc (.cells z t))) : wpList P ops Q (o :: rest) a w :=
  wpList_plain hgd fun K hK => by
    have hz' : (zeroValue t).run P w = .ok (.agg z) w := by
      cases hq : P.info? t with
      | none => simp [hq] at hz
      | some i => simp [hq] at hz; simp [zeroValue, typeInfo, hq, hz]
    unfold Oper.wp execOp
    simp only [ho, Instr.alloc, Sem.run_bind, hz', Result.andThen_ok, newVar, newRow, newObj, Sem.run_pure]
    exact hK _ _ h
theorem wpList_build_z (hgd : o.guard = none) (t : TypeId) (parts : Array (Nat × Operand)) (ho : o.op = .build t parts) (z : Array Value)
    (hz : P.built t (parts.map fun (i, x) => (i, a.eval x)).toList = some z)
    (h : wpList P ops Q rest (a.put o.dst (.agg z)) w) : wpList P ops Q (o :: rest) a w :=
  wpList_build hgd t parts ho (by rw [hz]; rfl) (by rw [hz]; exact h)
/-- A whole variable into the block that was made last. -/
theorem wpList_store_new {o0 : World} {c : Array Value} {t : TypeId} {n : Nat} (hgd : o.guard = none) (x y : Operand) (ho : o.op = .store t x y) (cells : Array Value)
    (hx : a.eval x = .pointer (some ⟨n, 0, none⟩)) (hy : a.eval y = .agg cells) (hn : n = o0.heap.size)
    (hi : (P.info? t).map (·.size) = some cells.size) (hc : c.size = cells.size) (h1 : cells.all (·.oneCell') = true)
    (h : wpList P ops Q rest (a.put o.dst undef) (o0.alloc (.cells cells t))) : wpList P ops Q (o :: rest) a (o0.alloc (.cells c t)) := by
  subst hn
  refine wpList_store_row hgd t x y ho _ cells hx hy t c (heap_alloc_new _ _) hi hc h1 ?_
  rw [World.setRow_alloc_new]
  exact h
end

/-- A sketch with noughts in its registers and buckets, its cells written out. -/
theorem lit_sk (c s l g : Int) : IsSk #[.int .u16 c, .int .u32 s, .int .i32 l, .int .i32 g, .int .u8 0, .int .u8 0, .int .u8 0, .int .u8 0, .int .u8 0, .int .u8 0, .int .u8 0, .int .u8 0, .int .u8 0, .int .u8 0, .int .u8 0, .int .u8 0, .int .u8 0, .int .u8 0, .int .u8 0, .int .u8 0, .int .u8 0, .int .u8 0, .int .u8 0, .int .u8 0, .int .u8 0, .int .u8 0, .int .u8 0, .int .u8 0] ⟨c, s, l, g, fun _ => 0, fun _ => 0⟩ := by
  show _ = Sk.cells _
  simp [Sk.cells, Sk.at, Array.ofFn_succ]

end Go.Proofs.Ytpglbakcjihohab

/-! Laws of the walk for whole sketches in memory over this translation: made, loaded, stored; the cells are a variable of which only the sketch is known. -/
namespace Go.Proofs.Ytpglbakcjihohab
open Go.RowKit

def Sk.zero : Sk := ⟨0, 0, 0, 0, fun _ => 0, fun _ => 0⟩
theorem Sk.zero_ok : Sk.zero.Ok :=
  ⟨by decide, by decide, by decide, by decide, by decide, by decide, by decide, by decide, fun _ => by show (0 : Int) ≤ 0; decide, fun _ => by show (0 : Int) ≤ 255; decide, fun _ => by show (0 : Int) ≤ 0; decide, fun _ => by show (0 : Int) ≤ 255; decide⟩
theorem info_sk {A : Array Value} {s : Sk} (h : IsSk A s) : (Try.prog.info? 59).map (·.size) = some A.size := by rw [h.size]; kernel_rfl
theorem zero_sk : (Try.prog.info? 59).bind (·.zero) = some (.agg Sk.zero.cells) := by kernel_rfl
theorem built_sk (x y z : Int) : Try.prog.built 59 [(1, .int .u32 x), (2, .int .i32 y), (3, .int .i32 z)] = some (Sk.mk 0 x y z (fun _ => 0) (fun _ => 0)).cells := by kernel_rfl

section
variable {ops : Array Oper} {rest : List Oper} {o : Oper} {a : Act} {w : World} {Q : Exit → Act → World → Prop}
theorem alloc_sk (hgd : o.guard = none) (ho : o.op = .alloc 59)
    (h : ∀ Z, IsSk Z Sk.zero → wpList Try.prog ops Q rest (a.put o.dst (.pointer (some ⟨w.heap.size, 0, none⟩))) (w.alloc (.cells Z 59))) : wpList Try.prog ops Q (o :: rest) a w :=
  wpList_alloc_z hgd _ ho _ zero_sk (h _ rfl)
theorem build_sk (hgd : o.guard = none) (parts : Array (Nat × Operand)) (ho : o.op = .build 59 parts) (s : Sk)
    (hz : Try.prog.built 59 (parts.map fun (i, x) => (i, a.eval x)).toList = some s.cells)
    (h : ∀ M, IsSk M s → wpList Try.prog ops Q rest (a.put o.dst (.agg M)) w) : wpList Try.prog ops Q (o :: rest) a w :=
  wpList_build_z hgd _ parts ho _ hz (h _ rfl)
theorem load_sk (hgd : o.guard = none) (x : Operand) (ho : o.op = .load 59 x) (g : Nat) (hx : a.eval x = .pointer (some ⟨g, 0, none⟩)) (A : Array Value) (s : Sk) (hA : IsSk A s)
    (hg : w.heap[g]? = some (.cells A 59)) (h : wpList Try.prog ops Q rest (a.put o.dst (.agg A)) w) : wpList Try.prog ops Q (o :: rest) a w :=
  wpList_load_row hgd _ x ho g hx _ A (0, 0) _ hg Try.underlying59 rfl (info_sk hA) h
/-- A whole sketch into the block that was made last. -/
theorem store_sk_new {o0 : World} {c : Array Value} {n : Nat} (hgd : o.guard = none) (x y : Operand) (ho : o.op = .store 59 x y) (A : Array Value) (s z : Sk)
    (hx : a.eval x = .pointer (some ⟨n, 0, none⟩)) (hy : a.eval y = .agg A) (hn : n = o0.heap.size) (hA : IsSk A s) (hc : IsSk c z)
    (h : wpList Try.prog ops Q rest (a.put o.dst undef) (o0.alloc (.cells A 59))) : wpList Try.prog ops Q (o :: rest) a (o0.alloc (.cells c 59)) :=
  wpList_store_new hgd x y ho A hx hy hn (info_sk hA) (by rw [hA.size, hc.size]) hA.one h
/-- A whole sketch into a block of a sketch. -/
theorem store_sk {c : Array Value} {g : Nat} (hgd : o.guard = none) (x y : Operand) (ho : o.op = .store 59 x y) (A : Array Value) (s : Sk)
    (hx : a.eval x = .pointer (some ⟨g, 0, none⟩)) (hy : a.eval y = .agg A) (hA : IsSk A s) (hg : w.heap[g]? = some (.cells c 59)) (hc : c.size = 28)
    (h : wpList Try.prog ops Q rest (a.put o.dst undef) (w.setRow g A)) : wpList Try.prog ops Q (o :: rest) a w :=
  wpList_store_row hgd _ x y ho g A hx hy _ c hg (info_sk hA) (by rw [hA.size, hc]) hA.one h
end
theorem setRow_blk {w : World} {g : Nat} {c A : Array Value} {t : TypeId} (h : w.heap[g]? = some (.cells c t)) : (w.setRow g A).heap[g]? = some (.cells A t) := setRow_heap w g c A t _ h
theorem setRow_oth {w : World} {g i : Nat} {A : Array Value} {b : Obj} (hne : i ≠ g) (h : w.heap[i]? = some b) : (w.setRow g A).heap[i]? = some b := by rw [setRow_other w g i A hne]; exact h
theorem below_setRow {w w' : World} {g : Nat} (A : Array Value) (h : Below w.heap.size w w') (hg : w.heap.size ≤ g) : Below w.heap.size w (w'.setRow g A) :=
  h.trans ⟨rfl, rfl, rfl, by simp, fun k hk => setRow_other w' g k A (by omega)⟩
/-- The answer of a function whose result is a sketch in memory. -/
theorem results_sk {fn : Func} {p : Tmp} (h : fn.results = #[.cell p 59]) (tmps : Array Value) (w : World) (g : Nat) (A : Array Value) (s : Sk) (hA : IsSk A s)
    (hp : tmps.getD p undef = .pointer (some ⟨g, 0, none⟩)) (hg : w.heap[g]? = some (.cells A 59)) : (results fn tmps).run Try.prog w = .ok (.agg A) w :=
  results_cell_row h tmps w g _ A (0, 0) _ hp hg Try.underlying59 rfl (info_sk hA)
end Go.Proofs.Ytpglbakcjihohab

/-! What Distinct and Rank, the program's and the document's, answer for every sketch whose fields fit their kinds: the same numbers; nothing old in memory is turned. -/
namespace Go.Proofs.Ytpglbakcjihohab
open Go.RowKit





end Go.Proofs.Ytpglbakcjihohab

/-! What 'pick' and 'all' answer; what a rank is, that it rises with the part; that Distinct rises with the registers. -/
namespace Go.Proofs.Ytpglbakcjihohab
open Go.RowKit
set_option maxRecDepth 100000

def pk (c n : Int) : Int := if c < 0 then (-(c + 1)) % n else c % n
theorem pk_bd (c n : Int) (hn : 1 ≤ n) : 0 ≤ pk c n ∧ pk c n < n := by
  unfold pk
  split
  · exact ⟨Int.emod_nonneg _ (by omega), Int.emod_lt_of_pos _ (by omega)⟩
  · exact ⟨Int.emod_nonneg _ (by omega), Int.emod_lt_of_pos _ (by omega)⟩
theorem ret_i64 {a b : Int} (h : a = b) : Ending.returned (.int .i64 a) = .returned (.int .i64 b) := by rw [h]
set_option maxHeartbeats 400000 in
theorem pick_any (c n : Int) (w : World) (h0 : -9223372036854775808 ≤ c) (h1 : c ≤ 9223372036854775807) (hn : 1 ≤ n) (hn1 : n ≤ 9223372036854775807) :
    Calls Try.prog 10 #[.int .i64 c, .int .i64 n] w fun e w' => e = .returned (.int .i64 (pk c n)) ∧ w' = w := by
  have hz : (n == 0) = false := by simp; omega
  have hb := pk_bd c n hn
  by_cases h : c < 0
  · have H : Hid (pk c n = (-(c + 1)) % n) := by unfold pk; exact if_pos h
    have hb1 : 0 ≤ (-(c + 1)) % n ∧ (-(c + 1)) % n < n := by rw [← H.out]; exact hb
    have ht : Hid ((-(c + 1)).tmod n = (-(c + 1)) % n) := Int.tmod_eq_emod_of_nonneg (by omega)
    go_enter Try.func10, Try.ntmps10
    go_wp2
    go_ret
    refine ⟨ret_i64 ?_, rfl⟩
    rw [H.out]
    show -((c + 1).tmod n) = _
    rw [← Int.neg_tmod]
    exact ht.out
  · have H : Hid (pk c n = c % n) := by unfold pk; exact if_neg h
    have hb1 : 0 ≤ c % n ∧ c % n < n := by rw [← H.out]; exact hb
    go_enter Try.func10, Try.ntmps10
    go_wp2
    go_ret
    refine ⟨ret_i64 ?_, rfl⟩
    rw [H.out]

/-! ### What a rank is -/
theorem rkGo_bd (s : Sk) (need : Int) : ∀ f b, rkGo s need b f ≤ 7 ∨ rkGo s need b f < b + f
  | 0, b => .inl (Nat.le_refl _)
  | f + 1, b => by
    unfold rkGo
    split
    · exact .inr (by omega)
    · rcases rkGo_bd s need f (b + 1) with h | h
      · exact .inl h
      · exact .inr (by omega)
theorem rk_le (s : Sk) (need : Int) : rkGo s need 0 7 ≤ 7 := by rcases rkGo_bd s need 7 0 with h | h <;> omega
/-- The buckets up to the rank have it, those ahead of it have it not. -/
theorem rkGo_is (s : Sk) (need : Int) (h8 : need ≤ 1000 * hsum s 8) : ∀ f b, b + f = 7 → (b = 0 ∨ ¬ need ≤ 1000 * hsum s b) → need ≤ 1000 * hsum s (rkGo s need b f + 1) ∧ (rkGo s need b f = 0 ∨ ¬ need ≤ 1000 * hsum s (rkGo s need b f))
  | 0, b, hb, hx => by
    unfold rkGo
    have : b = 7 := by omega
    subst this
    exact ⟨h8, hx⟩
  | f + 1, b, hb, hx => by
    unfold rkGo
    split
    · rename_i h; exact ⟨h, hx⟩
    · rename_i h; exact rkGo_is s need h8 f (b + 1) (by omega) (.inr h)
theorem rkGo_mono (s : Sk) (n1 n2 : Int) (h : n1 ≤ n2) : ∀ f b, b + f = 7 → rkGo s n1 b f ≤ rkGo s n2 b f
  | 0, _, _ => Nat.le_refl _
  | f + 1, b, hb => by
    unfold rkGo
    by_cases h2 : n2 ≤ 1000 * hsum s (b + 1)
    · rw [if_pos h2, if_pos (by omega)]; exact Nat.le_refl _
    · rw [if_neg h2]
      by_cases h1 : n1 ≤ 1000 * hsum s (b + 1)
      · rw [if_pos h1]
        exact rkGo_ge s n2 f (b + 1) b (by omega) (by omega)
      · rw [if_neg h1]; exact rkGo_mono s n1 n2 h f (b + 1) (by omega)
where
  rkGo_ge (s : Sk) (n : Int) : ∀ f b c, c ≤ b → c ≤ 7 → c ≤ rkGo s n b f
    | 0, _, _, _, h7 => h7
    | f + 1, b, c, hc, h7 => by
      unfold rkGo
      split
      · exact hc
      · exact rkGo_ge s n f (b + 1) c (by omega) h7
theorem clamp_in (p : Int) (h0 : 0 ≤ p) (h1 : p ≤ 1000) : clamp p = p := by unfold clamp; omega

/-! ### Distinct rises with the registers -/
theorem wgt_mono (r : Int) (h0 : 0 ≤ r) : wgt (r + 1) ≤ wgt r := by
  by_cases h : r < 32
  · have := wgt_step r h0 h
    have := (wgt_bd (r + 1) (by omega)).1
    omega
  · rw [wgt_one r (by omega), wgt_one (r + 1) (by omega)]; omega
theorem wsum_mono (s t : Sk) (h : ∀ k, wgt (t.r k) ≤ wgt (s.r k)) : ∀ k, wsum t k ≤ wsum s k
  | 0 => Int.le_refl _
  | k + 1 => by have := h k; have := wsum_mono s t h k; simp only [wsum]; omega
theorem dist_mono (x y : Int) (hy : 1 ≤ y) (h : y ≤ x) : 738734374912 / x ≤ 738734374912 / y := by
  have h1 : 738734374912 / x * x ≤ 738734374912 := Int.ediv_mul_le _ (by omega)
  have h2 : 0 ≤ 738734374912 / x := Int.ediv_nonneg (by omega) (by omega)
  refine Int.le_ediv_of_mul_le (by omega) ?_
  have := Int.mul_le_mul_of_nonneg_left h h2
  omega
theorem dist_ten (x : Int) (h1 : 1 ≤ x) (h : x ≤ 68719476736) : 10 ≤ 738734374912 / x := Int.le_ediv_of_mul_le (by omega) (by omega)
end Go.Proofs.Ytpglbakcjihohab

/-! Plain numbers of P3: the hash, the noughts ahead of the highest one, the bits that a value needs; the sketch of one event (no program is named here). -/
namespace Go.Proofs.Ytpglbakcjihohab
open Go.RowKit

def hstep (h b : Nat) : Nat := ((h ^^^ b) * 16777619) % 4294967296
def hgo (h : Nat) : List UInt8 → Nat
  | [] => h
  | c :: l => hgo (hstep h c.toNat) l
def h0 : Nat := 2166136261
def hash (l : List UInt8) : Nat := hgo h0 l
theorem hstep_lt (h b : Nat) : hstep h b < 4294967296 := Nat.mod_lt _ (by decide)
theorem hgo_snoc : ∀ (l : List UInt8) (h : Nat) (c : UInt8), hgo h (l ++ [c]) = hstep (hgo h l) c.toNat
  | [], _, _ => rfl
  | _ :: l, _, c => hgo_snoc l _ c
theorem hgo_lt : ∀ (l : List UInt8) (h : Nat), h < 4294967296 → hgo h l < 4294967296
  | [], _, hh => hh
  | c :: l, h, _ => hgo_lt l _ (hstep_lt h c.toNat)
theorem h0_lt : h0 < 4294967296 := by unfold h0; omega
theorem hash_lt (l : List UInt8) : hash l < 4294967296 := hgo_lt l h0 h0_lt
theorem hash_snoc (l : List UInt8) (c : UInt8) : hash (l ++ [c]) = hstep (hash l) c.toNat := hgo_snoc l h0 c
theorem hash_nil : hash [] = 2166136261 := rfl
theorem take_snoc (s : ByteArray) (k : Nat) (h : k < s.size) : s.data.toList.take (k + 1) = s.data.toList.take k ++ [s[k]] := by
  rw [List.take_succ_eq_append_getElem (by simpa using h)]; rfl
theorem hash_take (s : ByteArray) (k : Nat) (h : k < s.size) : hash (s.data.toList.take (k + 1)) = hstep (hash (s.data.toList.take k)) s[k].toNat := by
  rw [take_snoc s k h, hash_snoc]
theorem hash_all (s : ByteArray) (k : Nat) (h : s.size ≤ k) : hash (s.data.toList.take k) = hash s.data.toList := by
  rw [List.take_of_length_le (by simpa using h)]
theorem xor_lt (h b : Nat) (h1 : h < 4294967296) (h2 : b < 256) : h ^^^ b < 4294967296 := Nat.xor_lt_two_pow (n := 32) h1 (by omega)
/-- The last byte alone is turned. -/
theorem xor_low (h b : Nat) (hb : b < 256) : h - h % 256 + (h % 256 ^^^ b) = h ^^^ b := by
  have e1 : (h ^^^ b) % 256 = h % 256 ^^^ b := by
    have := Nat.xor_mod_two_pow (a := h) (b := b) (n := 8)
    rw [show (2 : Nat) ^ 8 = 256 from rfl] at this
    rw [this, Nat.mod_eq_of_lt hb]
  have e2 : (h ^^^ b) / 256 = h / 256 := by
    have := Nat.xor_div_two_pow (a := h) (b := b) (n := 8)
    rw [show (2 : Nat) ^ 8 = 256 from rfl] at this
    rw [this, Nat.div_eq_of_lt hb]; simp
  have := Nat.div_add_mod (h ^^^ b) 256
  have := Nat.div_add_mod h 256
  omega
/-- One bit more of the exclusive or. -/
theorem xor_bit (a b i : Nat) : (a ^^^ b) % 2 ^ (i + 1) = (a ^^^ b) % 2 ^ i + (if a / 2 ^ i % 2 ≠ b / 2 ^ i % 2 then 2 ^ i else 0) := by
  have h1 : (a ^^^ b) / 2 ^ i % 2 = if a / 2 ^ i % 2 ≠ b / 2 ^ i % 2 then 1 else 0 := by
    rw [Nat.xor_div_two_pow]
    generalize a / 2 ^ i = x
    generalize b / 2 ^ i = y
    have := Nat.xor_mod_two_pow (a := x) (b := y) (n := 1)
    rw [show (2 : Nat) ^ 1 = 2 from rfl] at this
    rw [this]
    rcases Nat.mod_two_eq_zero_or_one x with hx | hx <;> rcases Nat.mod_two_eq_zero_or_one y with hy | hy <;> rw [hx, hy] <;> decide
  rw [Nat.pow_succ, Nat.mod_mul, h1]
  split <;> simp

/-! ### The noughts -/
def ntsGo (h n : Nat) : Nat → Nat
  | 0 => n
  | f + 1 => if h / 2 ^ (31 - n) % 2 = 1 then n else ntsGo h (n + 1) f
def nts (h : Nat) : Nat := ntsGo h 0 28
theorem ntsGo_le (h : Nat) : ∀ f n, ntsGo h n f ≤ n + f
  | 0, n => Nat.le_refl _
  | f + 1, n => by
    unfold ntsGo
    split
    · omega
    · have := ntsGo_le h f (n + 1); omega
theorem nts_le (h : Nat) : nts h ≤ 28 := by have := ntsGo_le h 28 0; unfold nts; omega
theorem nts_hit (h n : Nat) (hn : n < 28) (hb : h / 2 ^ (31 - n) % 2 = 1) : ntsGo h n (28 - n) = n := by
  rw [show 28 - n = (27 - n) + 1 by omega, ntsGo, if_pos hb]
theorem nts_miss (h n : Nat) (hn : n < 28) (hb : ¬ h / 2 ^ (31 - n) % 2 = 1) : ntsGo h n (28 - n) = ntsGo h (n + 1) (28 - (n + 1)) := by
  rw [show 28 - n = (27 - n) + 1 by omega, ntsGo, if_neg hb, show 27 - n = 28 - (n + 1) by omega]

/-! ### The bits that a value needs -/
def nb (v : Nat) : Nat := if v = 0 then 0 else v.log2 + 1
theorem nb_step (v : Nat) (h : 0 < v) : nb v = nb (v / 2) + 1 := by
  unfold nb
  rw [if_neg (by omega)]
  by_cases h2 : v / 2 = 0
  · rw [if_pos h2]
    have : v = 1 := by omega
    subst this; decide
  · rw [if_neg h2]
    rw [Nat.log2_def v, if_pos (by omega)]
theorem nb_le (v k : Nat) : nb v ≤ k ↔ v < 2 ^ k := by
  unfold nb
  by_cases h : v = 0
  · subst h; simp [Nat.two_pow_pos]
  · rw [if_neg h]
    have := @Nat.log2_lt v k h
    omega
def bkt (v : Int) : Nat := nb v.toNat / 4
theorem bkt_lt (v : Int) (h : v ≤ 2147483647) : bkt v < 8 := by
  have := (nb_le v.toNat 31).2 (by omega)
  unfold bkt; omega

/-! ### The sketch of one event -/
def one (key : List UInt8) (v : Int) : Sk :=
  ⟨1, v % 4294967296, v, v, fun j => if j = hash key % 16 then (nts (hash key) + 1 : Nat) else 0, fun j => if j = bkt v then 1 else 0⟩
theorem one_ok (key : List UInt8) (v : Int) (h0 : -2147483648 ≤ v) (h1 : v ≤ 2147483647) : (one key v).Ok :=
  ⟨by simp only [one]; omega, by simp only [one]; omega, by simp only [one]; omega, by simp only [one]; omega, h0, h1, h0, h1,
   fun k => by simp only [one]; split <;> omega, fun k => by have := nts_le (hash key); simp only [one]; split <;> omega,
   fun k => by simp only [one]; split <;> omega, fun k => by simp only [one]; split <;> omega⟩
def Sk.empty : Sk := ⟨0, 0, 2147483647, -2147483648, fun _ => 0, fun _ => 0⟩
theorem Sk.empty_ok : Sk.empty.Ok :=
  ⟨by decide, by decide, by decide, by decide, by decide, by decide, by decide, by decide, fun _ => by show (0 : Int) ≤ 0; decide, fun _ => by show (0 : Int) ≤ 255; decide, fun _ => by show (0 : Int) ≤ 0; decide, fun _ => by show (0 : Int) ≤ 255; decide⟩
end Go.Proofs.Ytpglbakcjihohab

/-! What Hash, register, bucket, noughts and their like answer, the program's and the document's, for every key and every number of their kinds. -/
namespace Go.Proofs.Ytpglbakcjihohab
open Go.RowKit

theorem ret_num {k : IntKind} {a b : Int} (h : a = b) : Ending.returned (.int k a) = .returned (.int k b) := by rw [h]
set_option maxHeartbeats 400000 in
theorem hash_any (s : ByteArray) (w : World) (hs : s.size ≤ maxLen) :
    Calls Try.prog 81 #[.string s] w fun e w' => e = .returned (.int .u32 (hash s.data.toList)) ∧ w' = w := by
  unfold maxLen at hs
  go_enter Try.func81, Try.ntmps81
  go_wp2
  go_loop [3, 4] (fun t i => ∃ k H : Nat, k ≤ s.size ∧ H < 4294967296 ∧ Hid (H = hash (s.data.toList.take k)) ∧ i = .int .i64 k ∧ t = .int .u32 H) (fun _ i => s.size - (intOf i).toNat)
  case atStart => exact ⟨0, h0, Nat.zero_le _, h0_lt, rfl, rfl, rfl⟩
  case round =>
    obtain ⟨k, H, hk, hH, HD, rfl, rfl⟩ := hrel
    by_cases hlt : k < s.size
    · have HS : Hid (hash (s.data.toList.take (k + 1)) = hstep H s[k].toNat) := by show _ = _; rw [hash_take s k hlt, ← HD.out]
      have hb : s[k].toNat < 256 := UInt8.toNat_lt _
      have hx := u32_xor_nat H s[k].toNat hH (by omega)
      go_wp2
      go_round
      case rel => exact ⟨k + 1, hstep H s[k].toNat, by omega, hstep_lt _ _, HS.out.symm, by go_num, by simp [hstep]⟩
      case measure => simp [intOf]; omega
    · go_wp2
      go_ret
      exact ⟨ret_num (by rw [HD.out, hash_all s k (by omega)]), rfl⟩

theorem quo_le (h p : Nat) : 0 ≤ (h : Int) / (p : Int) ∧ (h : Int) / (p : Int) ≤ h := by
  have := Nat.div_le_self h p
  constructor
  · exact Int.ediv_nonneg (by omega) (by omega)
  · rw [← Int.natCast_ediv]; omega
theorem div_bit (h p : Nat) : ((h : Int) / (p : Int)) % 2 = ((h / p % 2 : Nat) : Int) := by simp
set_option maxHeartbeats 400000 in
theorem bucket_any (v : Int) (w : World) (h0 : -2147483648 ≤ v) (h1 : v ≤ 2147483647) :
    Calls Try.prog 83 #[.int .i32 v] w fun e w' => e = .returned (.int .i64 (bkt v)) ∧ w' = w := by
  go_enter Try.func83, Try.ntmps83
  go_wp2
  go_loop [0, 3] (fun t i => ∃ (u : Int) (k : Nat), u ≤ 2147483647 ∧ -2147483648 ≤ u ∧ k ≤ 31 ∧ Hid (k + nb u.toNat = nb v.toNat) ∧ t = .int .i32 u ∧ i = .int .i64 k) (fun t _ => (intOf t).toNat)
  case atStart => exact ⟨v, 0, h1, h0, by omega, by show 0 + _ = _; omega, rfl, rfl⟩
  case round =>
    obtain ⟨u, k, hu1, hu0, hk, HD, rfl, rfl⟩ := hrel
    by_cases hlt : 0 < u
    · have e1 := nb_step u.toNat (by omega)
      have e2 : u.toNat / 2 = (u / 2).toNat := by omega
      have e3 := (nb_le v.toNat 31).2 (by omega)
      have HN : Hid (k + 1 + nb (u / 2).toNat = nb v.toNat) := by have := HD.out; show _ = _; rw [← e2]; omega
      have hk' : k < 31 := by have := HD.out; omega
      clear e1 e2 e3
      go_wp2
      go_round
      case rel => exact ⟨u / 2, k + 1, by omega, by omega, by omega, HN, rfl, by go_num⟩
      case measure => simp [intOf]; omega
    · have HN : Hid (k = nb v.toNat) := by
        have := HD.out
        rw [show u.toNat = 0 by omega] at this
        exact this
      go_wp2
      go_ret
      refine ⟨ret_num ?_, rfl⟩
      unfold bkt
      rw [← HN.out]
      omega
set_option maxHeartbeats 400000 in
theorem register_any (h : Nat) (w : World) (hh : h < 4294967296) :
    Calls Try.prog 82 #[.int .u32 h] w fun e w' => e = .returned (.int .u8 ((nts h + 1 : Nat) : Int)) ∧ w' = w := by
  go_enter Try.func82, Try.ntmps82
  go_wp2
  go_loop [3, 4] (fun t i => ∃ (k p : Nat), k ≤ 28 ∧ Hid (p = 2 ^ (31 - k)) ∧ 0 < p ∧ p ≤ 2147483648 ∧ Hid (nts h = ntsGo h k (28 - k)) ∧ t = .int .u8 ((k + 1 : Nat) : Int) ∧ i = .int .u32 p) (fun t _ => 30 - (intOf t).toNat)
  case atStart => exact ⟨0, 2147483648, by omega, rfl, by omega, by omega, rfl, rfl, rfl⟩
  case round =>
    obtain ⟨k, p, hk, HP, hp0, hp1, HD, rfl, rfl⟩ := hrel
    have hx := u32_and_nat h p hh (by omega)
    by_cases hlt : k < 28
    · have hp8 : 16 ≤ p := by
        rw [HP.out]
        exact Nat.pow_le_pow_right (n := 2) (by omega) (show 4 ≤ 31 - k by omega)
      have hand : h &&& p = h / p % 2 * p := by rw [HP.out]; exact nat_bit (31 - k) h
      by_cases hb : h / p % 2 = 1
      · rw [hand, hb] at hx
        have hz : ((p : Int) == 0) = false := by simp; omega
        simp only [Nat.one_mul] at hx
        clear hand
        go_wp2
        go_ret
        exact ⟨ret_num (by rw [HD.out, nts_hit h k hlt (by rw [← HP.out]; exact hb)]), rfl⟩
      · have hb0 : h / p % 2 = 0 := by omega
        rw [hand, hb0] at hx
        simp only [Nat.zero_mul] at hx
        have HP2 : Hid (p / 2 = 2 ^ (31 - (k + 1))) := by
          show _ = _
          rw [HP.out, show 31 - k = (31 - (k + 1)) + 1 by omega, Nat.pow_succ]; omega
        clear hand
        go_wp2
        go_round
        case rel => exact ⟨k + 1, p / 2, by omega, HP2, by omega, by omega, by show nts h = _; rw [HD.out, nts_miss h k hlt (by rw [← HP.out]; exact hb)], by go_num, by go_num⟩
        case measure => simp [intOf]; omega
    · obtain rfl : k = 28 := by omega
      have hp8 : p = 8 := by rw [HP.out]
      subst hp8
      go_wp2
      go_ret
      exact ⟨ret_num (by rw [HD.out]; rfl), rfl⟩
end Go.Proofs.Ytpglbakcjihohab

/-! What Merge, the program's and the document's, answers for every two sketches whose fields fit their kinds: field by field what P3 says; nothing old in memory is turned. -/
namespace Go.Proofs.Ytpglbakcjihohab
open Go.RowKit

theorem ret_int {k : IntKind} {a b : Int} (h : a = b) : Ending.returned (.int k a) = .returned (.int k b) := by rw [h]
set_option maxHeartbeats 400000 in
theorem sumUpTo_any (a b l : Int) (w : World) (ha : 0 ≤ a) (ha1 : a ≤ 65535) (hb : 0 ≤ b) (hb1 : b ≤ 65535) :
    Calls Try.prog 73 #[.int .i64 a, .int .i64 b, .int .i64 l] w fun e w' => e = .returned (.int .i64 (min (a + b) l)) ∧ w' = w := by
  by_cases h : l < a + b
  · have H : Hid (min (a + b) l = l) := by show _ = _; omega
    generalize min (a + b) l = m at H ⊢
    go_enter Try.func73, Try.ntmps73
    go_wp2
    go_ret
    exact ⟨ret_int H.out.symm, rfl⟩
  · have H : Hid (min (a + b) l = a + b) := by show _ = _; omega
    generalize min (a + b) l = m at H ⊢
    go_enter Try.func73, Try.ntmps73
    go_wp2
    go_ret
    exact ⟨ret_int H.out.symm, rfl⟩

/-- What Merge has in memory: both sketches, boxed; the room of its answer; the sketch that it makes. -/
structure MW (w wr : World) (A B M : Array Value) : Prop where
  below : Below w.heap.size w wr
  a : wr.heap[w.heap.size]? = some (.cells A 59)
  b : wr.heap[w.heap.size + 1]? = some (.cells B 59)
  z : ∃ Z : Array Value, Z.size = 28 ∧ wr.heap[w.heap.size + 1 + 1]? = some (.cells Z 59)
  m : wr.heap[w.heap.size + 1 + 1 + 1]? = some (.cells M 59)
theorem MW.start {w : World} {A B Z M : Array Value} (hZ : Z.size = 28) : MW w ((((w.alloc (.cells A 59)).alloc (.cells B 59)).alloc (.cells Z 59)).alloc (.cells M 59)) A B M :=
  ⟨bnext (bnext (bnext (below_alloc _ _) (below_alloc _ _)) (below_alloc _ _)) (below_alloc _ _),
   blk_old (blk_old (blk_old (heap_alloc_new _ _))), blk_old (blk_old (by have := heap_alloc_new (w.alloc (.cells A 59)) (.cells B 59); simpa using this)),
   ⟨Z, hZ, blk_old (by have := heap_alloc_new ((w.alloc (.cells A 59)).alloc (.cells B 59)) (.cells Z 59); simpa using this)⟩,
   by have := heap_alloc_new (((w.alloc (.cells A 59)).alloc (.cells B 59)).alloc (.cells Z 59)) (.cells M 59); simpa using this⟩
theorem MW.drew {w wr : World} {A B M : Array Value} (h : MW w wr A B M) : MW w wr.drew A B M := ⟨h.below.drew, h.a, h.b, h.z, h.m⟩
theorem MW.drewN {w wr : World} {A B M : Array Value} (h : MW w wr A B M) (n : Nat) : MW w (wr.drewN n) A B M := ⟨⟨h.below.os, h.below.tape, h.below.output, h.below.size, h.below.block⟩, h.a, h.b, h.z, h.m⟩
theorem MW.set {w wr : World} {A B M : Array Value} (h : MW w wr A B M) (i : Nat) (v : Value) : MW w (wr.setCell ⟨w.heap.size + 1 + 1 + 1, i, none⟩ v) A B (M.setIfInBounds i v) :=
  ⟨h.below.setCell (by show _ ≤ w.heap.size + 1 + 1 + 1; omega) _,
   by rw [heap_setCell_other _ _ _ _ (by show _ ≠ w.heap.size + 1 + 1 + 1; omega)]; exact h.a,
   by rw [heap_setCell_other _ _ _ _ (by show _ ≠ w.heap.size + 1 + 1 + 1; omega)]; exact h.b,
   by obtain ⟨Z, hz, e⟩ := h.z; exact ⟨Z, hz, by rw [heap_setCell_other _ _ _ _ (by show _ ≠ w.heap.size + 1 + 1 + 1; omega)]; exact e⟩,
   heap_setCell_same _ _ _ _ _ _ h.m⟩

/-- What is known of the sketch that Merge makes when k registers and h buckets are done. -/
def mpart (a b : Sk) (k h : Nat) : Sk := ⟨min (a.c + b.c) 65535, (a.s + b.s) % 4294967296, min a.l b.l, max a.g b.g, fun j => if j < k then max (a.r j) (b.r j) else 0, fun j => if j < h then min (a.h j + b.h j) 255 else 0⟩
theorem merge_start {a b : Sk} {A B Z M : Array Value} {w : World} {L G : Int} (hZ : Z.size = 28) (hM : IsSk M ⟨min (a.c + b.c) 65535, (a.s + b.s) % 4294967296, L, G, fun _ => 0, fun _ => 0⟩) (hL : L = min a.l b.l) (hG : G = max a.g b.g) :
    ∃ (k : Nat) (M' : Array Value), k ≤ 16 ∧ Value.int .i64 0 = .int .i64 k ∧ IsSk M' (mpart a b k 0) ∧
      MW w ((((w.alloc (.cells A 59)).alloc (.cells B 59)).alloc (.cells Z 59)).alloc (.cells M 59)) A B M' :=
  ⟨0, M, by omega, rfl, hM.congr rfl rfl hL hG (fun j _ => by simp [mpart]) (fun j _ => by simp [mpart]), MW.start hZ⟩
theorem mpart_reg {a b : Sk} {k : Nat} {M : Array Value} (hk : k < 16) (h : IsSk M (mpart a b k 0)) (v u : Int) (hv : v = max (a.r k) (b.r k)) : IsSk ((M.setIfInBounds (4 + k) (.int .u8 u)).setIfInBounds (4 + k) (.int .u8 v)) (mpart a b (k + 1) 0) :=
  ((h.setReg k hk u).setReg k hk v).congr rfl rfl rfl rfl (fun j hj => by
    by_cases e : j = k
    · subst e; simp [mpart, hv]
    · simp [mpart, e, show j < k + 1 ↔ j < k by omega]) (fun _ _ => rfl)
theorem mpart_reg1 {a b : Sk} {k : Nat} {M : Array Value} (hk : k < 16) (h : IsSk M (mpart a b k 0)) (v : Int) (hv : v = max (a.r k) (b.r k)) : IsSk (M.setIfInBounds (4 + k) (.int .u8 v)) (mpart a b (k + 1) 0) :=
  (h.setReg k hk v).congr rfl rfl rfl rfl (fun j hj => by
    by_cases e : j = k
    · subst e; simp [mpart, hv]
    · simp [mpart, e, show j < k + 1 ↔ j < k by omega]) (fun _ _ => rfl)
theorem mpart_hist {a b : Sk} {h : Nat} {M : Array Value} (hk : h < 8) (hM : IsSk M (mpart a b 16 h)) (v : Int) (hv : v = min (a.h h + b.h h) 255) : IsSk (M.setIfInBounds (20 + h) (.int .u8 v)) (mpart a b 16 (h + 1)) :=
  (hM.setHist h hk v).congr rfl rfl rfl rfl (fun _ _ => rfl) (fun j hj => by
    by_cases e : j = h
    · subst e; simp [mpart, hv]
    · simp [mpart, e, show j < h + 1 ↔ j < h by omega])
theorem mpart_end {a b : Sk} {M : Array Value} (hM : IsSk M (mpart a b 16 8)) : IsSk M (mrg a b) :=
  hM.congr rfl rfl rfl rfl (fun j hj => by simp [mpart, mrg, hj]) (fun j hj => by simp [mpart, mrg, hj])

set_option maxHeartbeats 1000000 in
theorem merge_any (a b : Sk) (A B : Array Value) (hA : IsSk A a) (hB : IsSk B b) (oka : a.Ok) (okb : b.Ok) (w : World) :
    Calls Try.prog 59 #[.agg A, .agg B] w fun e w' => ∃ M, e = .returned (.agg M) ∧ IsSk M (mrg a b) ∧ Below w.heap.size w w' := by
  have a0 := hA.get0
  have a1 := hA.get1
  have a2 := hA.get2
  have a3 := hA.get3
  have b0 := hB.get0
  have b1 := hB.get1
  have b2 := hB.get2
  have b3 := hB.get3
  have := oka.c0
  have := oka.c1
  have := okb.c0
  have := okb.c1
  by_cases hl : b.l < a.l <;> by_cases hg : a.g < b.g
  all_goals
    go_enter Try.func59, Try.ntmps59
    go_wp2_with (first | (refine alloc_sk rfl rfl ?_; intro Z hZ) | (refine build_sk rfl _ rfl ⟨0, (a.s + b.s) % 4294967296, a.l, a.g, fun _ => 0, fun _ => 0⟩ (by kernel_rfl) ?_; intro M hM; have m2 := hM.get2; have m3 := hM.get3; have m0 := hM.get0) | (refine store_sk_new rfl _ _ rfl M _ _ rfl rfl (by simp) hM (by assumption) ?_) | (go_at_call 73; refine (sumUpTo_any _ _ _ _ (by assumption) (by assumption) (by assumption) (by assumption)).mono ?_; rintro e w' ⟨rfl, rfl⟩))
    clear a0 a1 a2 a3 b0 b1 b2 b3 m0 m2 m3
    go_loopw [6] (fun i wr => ∃ (k : Nat) (M : Array Value), k ≤ 16 ∧ i = .int .i64 k ∧ IsSk M (mpart a b k 0) ∧ MW w wr A B M) (fun i _ => 16 - (intOf i).toNat)
    case atStart => exact merge_start (IsSk.size (s := Sk.zero) (by assumption)) (by first | exact ((hM.setC _).setL _).setG _ | exact (hM.setC _).setL _ | exact (hM.setC _).setG _ | exact hM.setC _) (by first | omega | (dsimp only; omega)) (by first | omega | (dsimp only; omega))
    case round =>
      clear hM
      obtain ⟨k, M, hk, rfl, hM, hm⟩ := hrel
      by_cases hlt : k < 16
      · have ca : wr.cell? ⟨w.heap.size, 4 + k, none⟩ = some (.int .u8 (a.r k)) := by rw [cell_of_row _ _ _ _ _ _ hm.a]; exact hA.reg k hlt
        have cb : wr.cell? ⟨w.heap.size + 1, 4 + k, none⟩ = some (.int .u8 (b.r k)) := by rw [cell_of_row _ _ _ _ _ _ hm.b]; exact hB.reg k hlt
        have cm : wr.cell? ⟨w.heap.size + 1 + 1 + 1, 4 + k, none⟩ = some (.int .u8 0) := by rw [cell_of_row _ _ _ _ _ _ hm.m]; have := hM.reg k hlt; simpa [mpart] using this
        have cf : wr.frozen? ⟨w.heap.size + 1 + 1 + 1, 4 + k, none⟩ = false := frozen_of_row _ _ _ _ _ hm.m
        by_cases hgt : a.r k < b.r k
        · go_wp2
          go_quiet (fail)
          go_wp2
          go_roundw
          case rel => exact ⟨k + 1, _, by omega, by go_num, mpart_reg hlt hM _ _ (by omega), ((hm.set _ _).drewN _).set _ _⟩
          case measure => simp [intOf]; omega
        · go_wp2
          go_quiet (fail)
          go_wp2
          go_roundw
          case rel => exact ⟨k + 1, _, by omega, by go_num, mpart_reg1 hlt hM _ (by omega), (hm.set _ _).drewN _⟩
          case measure => simp [intOf]; omega
      · obtain rfl : k = 16 := by omega
        clear hk hlt
        go_wp2
        go_loopw [7] (fun i wr => ∃ (k : Nat) (M : Array Value), k ≤ 8 ∧ i = .int .i64 k ∧ IsSk M (mpart a b 16 k) ∧ MW w wr A B M) (fun i _ => 8 - (intOf i).toNat)
        case atStart => exact ⟨0, M, by omega, rfl, hM, hm⟩
        case round =>
          clear hM hm
          obtain ⟨k, M, hk, rfl, hM, hm⟩ := hrel
          by_cases hlt : k < 8
          · have ca : wr.cell? ⟨w.heap.size, 20 + k, none⟩ = some (.int .u8 (a.h k)) := by rw [cell_of_row _ _ _ _ _ _ hm.a]; exact hA.hist k hlt
            have cb : wr.cell? ⟨w.heap.size + 1, 20 + k, none⟩ = some (.int .u8 (b.h k)) := by rw [cell_of_row _ _ _ _ _ _ hm.b]; exact hB.hist k hlt
            have cm : wr.cell? ⟨w.heap.size + 1 + 1 + 1, 20 + k, none⟩ = some (.int .u8 0) := by rw [cell_of_row _ _ _ _ _ _ hm.m]; have := hM.hist k hlt; simpa [mpart] using this
            have cf : wr.frozen? ⟨w.heap.size + 1 + 1 + 1, 20 + k, none⟩ = false := frozen_of_row _ _ _ _ _ hm.m
            have h1 := oka.h0 k
            have h2 := oka.h1 k
            have h3 := okb.h0 k
            have h4 := okb.h1 k
            have hi0 : (0 : Int) ≤ (k : Int) := by omega
            have hi1 : (k : Int) < 8 := by omega
            have e1 : IntKind.i64.wrap (a.h k) = a.h k := IntWalk.i64_in _ ⟨by omega, by omega⟩
            have e2 : IntKind.i64.wrap (b.h k) = b.h k := IntWalk.i64_in _ ⟨by omega, by omega⟩
            have e3 : IntKind.u8.wrap (min (a.h k + b.h k) 255) = min (a.h k + b.h k) 255 := IntWalk.u8_in _ ⟨by omega, by omega⟩
            go_wp2
            go_region_held3 (fun w' => w'.cell? ⟨w.heap.size, 20 + k, none⟩ = some (.int .u8 (a.h k)) ∧ w'.cell? ⟨w.heap.size + 1, 20 + k, none⟩ = some (.int .u8 (b.h k))) (first | (exact ⟨cell_set_drew (by omega) (by assumption), cell_set_drew (by omega) (by assumption)⟩) | go_keep) ((go_at_call 73; refine (sumUpTo_any _ _ _ _ (by omega) (by omega) (by omega) (by omega)).mono ?_; rintro e w' ⟨rfl, rfl⟩))
            go_wp2
            go_roundw
            case rel =>
              repeat apply Exists.intro
              exact ⟨⟨k + 1, _, by omega, by go_num, mpart_hist hlt hM _ rfl, (hm.set _ _).drew⟩, rfl⟩
            case measure => simp [intOf]; omega
          · obtain rfl : k = 8 := by omega
            obtain ⟨Z', hz1, hz2⟩ := hm.z
            have hm' := hm.m
            have hend := mpart_end hM
            go_wp2_with (first | (refine load_sk rfl _ rfl _ rfl M _ hM hm' ?_) | (refine store_sk rfl _ _ rfl M _ rfl rfl hM hz2 hz1 ?_))
            refine bodyPost_ret (results_sk rfl _ _ _ M _ hM rfl (setRow_blk hz2)) rfl ⟨M, rfl, hend, below_setRow _ hm.below (by omega)⟩

end Go.Proofs.Ytpglbakcjihohab

/-! What the document's Merge answers for every two sketches whose fields fit their kinds: field by field what P3 says; nothing old in memory is turned. -/
namespace Go.Proofs.Ytpglbakcjihohab
open Go.RowKit


/-- What is known of the sketch that the document's Merge makes when k registers and h buckets are done. -/
def rpart (a b : Sk) (k h : Nat) : Sk := ⟨min (a.c + b.c) 65535, (a.s + b.s) % 4294967296, min a.l b.l, max a.g b.g, fun j => if j < k then max (a.r j) (b.r j) else a.r j, fun j => if j < h then min (a.h j + b.h j) 255 else a.h j⟩
theorem rmerge_start {a b : Sk} {A B Z M : Array Value} {w : World} {c s L G : Int} (hZ : Z.size = 28) (hM : IsSk M ⟨c, s, L, G, a.r, a.h⟩) (hc : c = min (a.c + b.c) 65535) (hs : s = (a.s + b.s) % 4294967296) (hL : L = min a.l b.l) (hG : G = max a.g b.g) :
    ∃ (k : Nat) (M' : Array Value), k ≤ 16 ∧ Value.int .i64 0 = .int .i64 k ∧ IsSk M' (rpart a b k 0) ∧
      MW w ((((w.alloc (.cells A 59)).alloc (.cells B 59)).alloc (.cells Z 59)).alloc (.cells M 59)) A B M' :=
  ⟨0, M, by omega, rfl, hM.congr hc hs hL hG (fun j _ => by simp [rpart]) (fun j _ => by simp [rpart]), MW.start hZ⟩
theorem rpart_reg {a b : Sk} {k : Nat} {M : Array Value} (hk : k < 16) (h : IsSk M (rpart a b k 0)) (v : Int) (hv : v = max (a.r k) (b.r k)) : IsSk (M.setIfInBounds (4 + k) (.int .u8 v)) (rpart a b (k + 1) 0) :=
  (h.setReg k hk v).congr rfl rfl rfl rfl (fun j hj => by
    by_cases e : j = k
    · subst e; simp [rpart, hv]
    · simp [rpart, e, show j < k + 1 ↔ j < k by omega]) (fun _ _ => rfl)
theorem rpart_reg0 {a b : Sk} {k : Nat} {M : Array Value} (h : IsSk M (rpart a b k 0)) (hv : a.r k = max (a.r k) (b.r k)) : IsSk M (rpart a b (k + 1) 0) :=
  h.congr rfl rfl rfl rfl (fun j hj => by
    by_cases e : j = k
    · subst e; simp [rpart]; omega
    · simp [rpart, show j < k + 1 ↔ j < k by omega]) (fun _ _ => rfl)
theorem rpart_hist {a b : Sk} {h : Nat} {M : Array Value} (hk : h < 8) (hM : IsSk M (rpart a b 16 h)) (v : Int) (hv : v = min (a.h h + b.h h) 255) : IsSk (M.setIfInBounds (20 + h) (.int .u8 v)) (rpart a b 16 (h + 1)) :=
  (hM.setHist h hk v).congr rfl rfl rfl rfl (fun _ _ => rfl) (fun j hj => by
    by_cases e : j = h
    · subst e; simp [rpart, hv]
    · simp [rpart, e, show j < h + 1 ↔ j < h by omega])
theorem rpart_end {a b : Sk} {M : Array Value} (hM : IsSk M (rpart a b 16 8)) : IsSk M (mrg a b) :=
  hM.congr rfl rfl rfl rfl (fun j hj => by simp [rpart, mrg, hj]) (fun j hj => by simp [rpart, mrg, hj])


end Go.Proofs.Ytpglbakcjihohab

/-! What tributary.Merge answers: the same as the inner Merge. -/
namespace Go.Proofs.Ytpglbakcjihohab
open Go.RowKit

set_option maxHeartbeats 400000 in
theorem tmerge_any (a b : Sk) (A B : Array Value) (hA : IsSk A a) (hB : IsSk B b) (oka : a.Ok) (okb : b.Ok) (w : World) :
    Calls Try.prog 76 #[.agg A, .agg B] w fun e w' => ∃ M, e = .returned (.agg M) ∧ IsSk M (mrg a b) ∧ Below w.heap.size w w' := by
  have g1 := heap_alloc_new w (.cells A 59)
  have g2 := blk2 w (.cells A 59) (.cells B 59)
  go_enter Try.func76, Try.ntmps76
  go_wp2_with (first | (refine alloc_sk rfl rfl ?_; intro Z hZ; have g3 := blk3 w (.cells A 59) (.cells B 59) (.cells Z 59); have HB := bnext (below_alloc2 w (.cells A 59) (.cells B 59)) (below_alloc _ (.cells Z 59))) | (refine load_sk rfl _ rfl _ rfl A _ hA (blk_old (blk_old g1)) ?_) | (refine load_sk rfl _ rfl _ rfl B _ hB (blk_old g2) ?_) | (go_at_call 59; refine (merge_any a b A B hA hB oka okb _).mono ?_; rintro e w1 ⟨M, rfl, hM, hb⟩; replace g3 := keep hb g3; replace HB := bnext HB hb) | (refine store_sk rfl _ _ rfl M _ rfl rfl hM g3 hZ.size ?_))
  refine bodyPost_ret (results_sk rfl _ _ _ M _ hM rfl (setRow_blk g3)) rfl ⟨M, rfl, hM, below_setRow _ HB (by omega)⟩
end Go.Proofs.Ytpglbakcjihohab

/-! What Empty, the sketch of one event, and Add answer, the program's and the document's, for every key, value and sketch. -/
namespace Go.Proofs.Ytpglbakcjihohab
open Go.RowKit

set_option maxHeartbeats 400000 in
theorem empty_any (w : World) :
    Calls Try.prog 58 #[] w fun e w' => ∃ M, e = .returned (.agg M) ∧ IsSk M Sk.empty ∧ Below w.heap.size w w' := by
  go_enter Try.func58, Try.ntmps58
  go_wp2_with (first | (refine alloc_sk rfl rfl ?_; intro Z hZ) | (refine build_sk rfl _ rfl Sk.empty (by kernel_rfl) ?_; intro M hM) | (refine store_sk_new rfl _ _ rfl M _ _ rfl rfl (by simp) hM (by assumption) ?_))
  exact bodyPost_ret (results_sk rfl _ _ _ M _ hM rfl (heap_alloc_new _ _)) rfl ⟨M, rfl, hM, below_alloc _ _⟩
set_option maxHeartbeats 400000 in
theorem tempty_any (w : World) :
    Calls Try.prog 75 #[] w fun e w' => ∃ M, e = .returned (.agg M) ∧ IsSk M Sk.empty ∧ Below w.heap.size w w' := by
  go_enter Try.func75, Try.ntmps75
  go_wp2_with (first | (refine alloc_sk rfl rfl ?_; intro Z hZ; have g := heap_alloc_new w (.cells Z 59); have HB := below_alloc w (.cells Z 59)) | (go_at_call 58; refine (empty_any _).mono ?_; rintro e w1 ⟨M, rfl, hM, hb⟩; replace g := keep hb g; replace HB := bnext HB hb) | (refine store_sk rfl _ _ rfl M _ rfl rfl hM g hZ.size ?_))
  exact bodyPost_ret (results_sk rfl _ _ _ M _ hM rfl (setRow_blk g)) rfl ⟨M, rfl, hM, below_setRow _ HB (Nat.le_refl _)⟩

/-- The sketch of one event, its cells made one after the other. -/
theorem one_made {M : Array Value} {key : List UInt8} {v : Int} {H : Nat} (hH : Hid (hash key = H)) (hb : bkt v < 8) {z : Sk} (hM : IsSk M z) (hc : z.c = 1) (hs : z.s = v % 4294967296) (hl : z.l = v) (hg : z.g = v) (hr : ∀ k, z.r k = 0) (hh : ∀ k, z.h k = 0) :
    M[4 + H % 16]? = some (.int .u8 0) ∧ (∀ x : Value, (M.setIfInBounds (4 + H % 16) x)[20 + bkt v]? = some (.int .u8 0)) ∧
    IsSk ((M.setIfInBounds (4 + H % 16) (.int .u8 ((nts H : Int) + 1))).setIfInBounds (20 + bkt v) (.int .u8 1)) (one key v) := by
  refine ⟨?_, fun x => ?_, ?_⟩
  · rw [hM.reg _ (by omega), hr]
  · rw [Array.getElem?_setIfInBounds_ne (by omega), hM.hist _ hb, hh]
  · refine ((hM.setReg (H % 16) (by omega) _).setHist (bkt v) hb _).congr hc hs hl hg (fun k _ => ?_) (fun k _ => ?_)
    · have := hH.out
      simp only [one, this, hr]
      split <;> simp_all
    · simp only [one, hh]
set_option maxHeartbeats 1000000 in
theorem one_any (s : ByteArray) (v : Int) (w : World) (hs : s.size ≤ maxLen) (h0 : -2147483648 ≤ v) (h1 : v ≤ 2147483647) :
    Calls Try.prog 80 #[.string s, .int .i32 v] w fun e w' => ∃ M, e = .returned (.agg M) ∧ IsSk M (one s.data.toList v) ∧ Below w.heap.size w w' := by
  have hH := hash_lt s.data.toList
  have hn := nts_le (hash s.data.toList)
  have hB := bkt_lt v h1
  obtain ⟨H, HH⟩ : ∃ H, Hid (hash s.data.toList = H) := ⟨_, by unfold Hid; rfl⟩
  rw [HH.out] at hH hn
  go_enter Try.func80, Try.ntmps80
  go_wp2_with (first | (refine alloc_sk rfl rfl ?_; intro Z hZ) | (refine build_sk rfl _ rfl ⟨1, v % 4294967296, v, v, fun _ => 0, fun _ => 0⟩ (by kernel_rfl) ?_; intro M hM; obtain ⟨m4, m20, hM2⟩ := one_made HH hB hM rfl rfl rfl rfl (fun _ => rfl) (fun _ => rfl)) | (refine store_sk_new rfl _ _ rfl M _ _ rfl rfl (by simp) hM (by assumption) ?_) | (go_at_call 81; refine (hash_any s _ hs).mono ?_; rintro e w1 ⟨rfl, rfl⟩; rw [HH.out]) | (go_at_call 82; refine (register_any H _ hH).mono ?_; rintro e w1 ⟨rfl, rfl⟩) | (go_at_call 83; refine (bucket_any v _ h0 h1).mono ?_; rintro e w1 ⟨rfl, rfl⟩) | (refine load_sk rfl _ rfl _ rfl _ _ hM2 (blk2 _ _ _) ?_) | (refine store_sk rfl _ _ rfl _ _ rfl rfl hM2 (blk_old (heap_alloc_new _ _)) (IsSk.size (s := Sk.zero) (by assumption)) ?_))
  exact bodyPost_ret (results_sk rfl _ _ _ _ _ hM2 rfl (setRow_blk (blk_old (heap_alloc_new _ _)))) rfl ⟨_, rfl, hM2, below_setRow _ (below_alloc2 _ _ _) (Nat.le_refl _)⟩
end Go.Proofs.Ytpglbakcjihohab

/-! Two sketches with the same cells compare as equal; loads under a guard; Add of both sides. -/
namespace Go.Proofs.Ytpglbakcjihohab
open Go.RowKit
set_option maxRecDepth 100000

theorem mapM_some_of {α β : Type} {f : α → Option β} : ∀ (l : List α), (∀ x ∈ l, ∃ y, f x = some y) → ∃ ys, l.mapM f = some ys
  | [], _ => ⟨[], rfl⟩
  | x :: l, h => by
    obtain ⟨y, hy⟩ := h x (by simp)
    obtain ⟨ys, hys⟩ := mapM_some_of l (fun z hz => h z (by simp [hz]))
    exact ⟨y :: ys, by simp [List.mapM_cons, hy, hys]⟩
theorem cellsOf_sk : Try.prog.cellsOf 59 = 28 := by kernel_rfl
theorem cellsOf_u16 : Try.prog.cellsOf 54 = 1 := by kernel_rfl
theorem cellsOf_u32 : Try.prog.cellsOf 55 = 1 := by kernel_rfl
theorem cellsOf_i32 : Try.prog.cellsOf 21 = 1 := by kernel_rfl
theorem cellsOf_u8 : Try.prog.cellsOf 5 = 1 := by kernel_rfl
theorem cellsOf_regs : Try.prog.cellsOf 56 = 16 := by kernel_rfl
theorem cellsOf_hist : Try.prog.cellsOf 57 = 8 := by kernel_rfl
theorem keys_int {t : TypeId} {k : IntKind} {cs : List Value} {i : Nat} {n : Int} (d : Nat) (ht : Try.prog.underlying t = some (.int k)) (h : cs[i]? = some (.int k n)) (hw : (Lit.int k n).wf = true) :
    ∃ y, Try.prog.keyLits (d + 1) t ((cs.drop i).take 1) = some y := by
  have e : (cs.drop i).take 1 = [.int k n] := by
    obtain ⟨hi, hv⟩ := List.getElem?_eq_some_iff.1 h
    rw [List.drop_eq_getElem_cons hi, hv]; simp
  rw [e]
  exact ⟨[.int k n], by simp [Program.keyLits, ht, hw]⟩
theorem keys_bytes {t : TypeId} {m o : Nat} {cs : List Value} {f : Nat → Int} (d : Nat) (ht : Try.prog.underlying t = some (.array m 5)) (hc : Try.prog.cellsOf t = m) (hl : o + m ≤ cs.length)
    (h : ∀ k, k < m → cs[o + k]? = some (.int .u8 (f k))) (h0 : ∀ k, 0 ≤ f k) (h1 : ∀ k, f k ≤ 255) : ∃ y, Try.prog.keyLits (d + 2) t ((cs.drop o).take m) = some y := by
  obtain ⟨ys, hys⟩ := mapM_some_of (f := fun i => Try.prog.keyLits (d + 1) 5 ((((cs.drop o).take m).drop (i * Try.prog.cellsOf 5)).take (Try.prog.cellsOf 5))) (List.range m) (fun i hi => by
    simp only [cellsOf_u8, Nat.mul_one]
    have hi' : i < m := by simpa using hi
    refine keys_int (k := .u8) (n := f i) d Try.underlying5 ?_ ?_
    · rw [List.getElem?_take, if_pos hi', List.getElem?_drop]; exact h i hi'
    · have := h0 i; have := h1 i
      simp [Lit.wf, IntKind.min, IntKind.max, IntKind.signed, IntKind.bits]; omega)
  refine ⟨ys.flatten, ?_⟩
  have hlen : ((cs.drop o).take m).length = Try.prog.cellsOf t := by rw [hc]; simp; omega
  rw [show d + 2 = (d + 1) + 1 from rfl]
  unfold Program.keyLits
  rw [ht]
  simp only [hlen, if_true, hys, Option.map_some]
theorem keys_sk {A : Array Value} {s : Sk} (hA : IsSk A s) (ok : s.Ok) : ∃ la, Try.prog.keyLits 3 59 A.toList = some la := by
  have hl : A.toList.length = 28 := by simpa using hA.size
  have h0 := ok.c0; have h1 := ok.c1; have h2 := ok.s0; have h3 := ok.s1; have h4 := ok.l0; have h5 := ok.l1; have h6 := ok.g0; have h7 := ok.g1
  obtain ⟨y0, k0⟩ := keys_int (cs := A.toList) (n := s.c) (k := .u16) (i := 0) 1 Try.underlying54 (by simpa using hA.get0) (by simp [Lit.wf, IntKind.min, IntKind.max, IntKind.signed, IntKind.bits]; omega)
  obtain ⟨y1, k1⟩ := keys_int (cs := A.toList) (n := s.s) (k := .u32) (i := 1) 1 Try.underlying55 (by simpa using hA.get1) (by simp [Lit.wf, IntKind.min, IntKind.max, IntKind.signed, IntKind.bits]; omega)
  obtain ⟨y2, k2⟩ := keys_int (cs := A.toList) (n := s.l) (k := .i32) (i := 2) 1 Try.underlying21 (by simpa using hA.get2) (by simp [Lit.wf, IntKind.min, IntKind.max, IntKind.signed, IntKind.bits]; omega)
  obtain ⟨y3, k3⟩ := keys_int (cs := A.toList) (n := s.g) (k := .i32) (i := 3) 1 Try.underlying21 (by simpa using hA.get3) (by simp [Lit.wf, IntKind.min, IntKind.max, IntKind.signed, IntKind.bits]; omega)
  obtain ⟨y4, k4⟩ := keys_bytes (o := 4) (f := s.r) 0 Try.underlying56 cellsOf_regs (cs := A.toList) (by omega) (fun k hk => by simpa using hA.reg k hk) ok.r0 ok.r1
  obtain ⟨y5, k5⟩ := keys_bytes (o := 20) (f := s.h) 0 Try.underlying57 cellsOf_hist (cs := A.toList) (by omega) (fun k hk => by simpa using hA.hist k hk) ok.h0 ok.h1
  refine ⟨[y0, y1, y2, y3, y4, y5].flatten, ?_⟩
  rw [show (3 : Nat) = 2 + 1 from rfl]
  unfold Program.keyLits
  rw [Try.underlying59]
  simp only [hl, cellsOf_sk, cellsOf_u16, cellsOf_u32, cellsOf_i32, cellsOf_regs, cellsOf_hist, List.mapM_cons, List.mapM_nil, k0, k1, k2, k3, k4, k5]
  simp
theorem eqAt_sk : EqAt Try.prog 10000 59 := run_equalIn_deep 9997 3 59 (by kernel_rfl)
theorem eq_sk {A : Array Value} {s : Sk} (hA : IsSk A s) (ok : s.Ok) (w : World) : (Op.equalIn 10000 59 (.agg A) (.agg A)).run Try.prog w = .ok true w := by
  obtain ⟨la, ha⟩ := keys_sk hA ok
  have hf : (Value.agg A).formed Try.prog 59 = true := by
    simp only [Value.formed, Try.underlying59, hA.size, cellsOf_sk]; rfl
  obtain ⟨r, hr, hi⟩ := eqAt_sk w 3 3 (.agg A) (.agg A) la la hf hf ha ha
  rw [hr, hi.2 rfl]
theorem eql_sk {A : Array Value} {s : Sk} (hA : IsSk A s) (ok : s.Ok) (w : World) : (binOp .eql 59 (.agg A) (.agg A)).run Try.prog w = .ok (.bool true) w := by
  rw [run_eql_struct, eq_sk hA ok]; rfl
theorem neq_sk {A : Array Value} {s : Sk} (hA : IsSk A s) (ok : s.Ok) (w : World) : (binOp .neq 59 (.agg A) (.agg A)).run Try.prog w = .ok (.bool false) w := by
  rw [run_neq_struct, eq_sk hA ok]; rfl
theorem guard_sk : Try.prog.eqGuardType Try.prog.depth 59 = false := by kernel_rfl

section
variable {ops : Array Oper} {rest : List Oper} {o : Oper} {a : Act} {w : World} {Q : Exit → Act → World → Prop}
/-- A whole sketch loaded under a guard that holds. -/
theorem load_sk_g (hw : Region.wanted o (yielded ops a.tmps) = true) (x : Operand) (ho : o.op = .load 59 x) (g : Nat) (hx : a.eval x = .pointer (some ⟨g, 0, none⟩)) (A : Array Value) (s : Sk) (hA : IsSk A s)
    (hg : w.heap[g]? = some (.cells A 59)) (h : wpList Try.prog ops Q rest (a.put o.dst (.agg A)) w) : wpList Try.prog ops Q (o :: rest) a w :=
  wpList_step fun _ hK => by
    rw [if_pos hw]
    exact wp_load_row _ x ho g hx _ A (0, 0) _ hg Try.underlying59 rfl (info_sk hA) (hK _ _ h)
/-- Two sketches of the same cells compared, under a guard that holds. -/
theorem eql_sk_g (hw : Region.wanted o (yielded ops a.tmps) = true) (x y : Operand) (t' : TypeId) (ho : o.op = .binOp .eql 59 x y t') (A : Array Value) (s : Sk) (hA : IsSk A s) (ok : s.Ok) (hx : a.eval x = .agg A) (hy : a.eval y = .agg A)
    (h : wpList Try.prog ops Q rest (a.put o.dst (.bool true)) w) : wpList Try.prog ops Q (o :: rest) a w :=
  wpList_step fun _ hK => by
    rw [if_pos hw]
    unfold Oper.wp execOp
    simp only [ho, hx, hy, Sem.run_bind, run_eqGuard_agg w .eql _ x y A A guard_sk, Result.andThen_ok, eql_sk hA ok, Sem.run_pure]
    exact hK _ _ h
theorem neq_sk_g (hw : Region.wanted o (yielded ops a.tmps) = true) (x y : Operand) (t' : TypeId) (ho : o.op = .binOp .neq 59 x y t') (A : Array Value) (s : Sk) (hA : IsSk A s) (ok : s.Ok) (hx : a.eval x = .agg A) (hy : a.eval y = .agg A)
    (h : wpList Try.prog ops Q rest (a.put o.dst (.bool false)) w) : wpList Try.prog ops Q (o :: rest) a w :=
  wpList_step fun _ hK => by
    rw [if_pos hw]
    unfold Oper.wp execOp
    simp only [ho, hx, hy, Sem.run_bind, run_eqGuard_agg w .neq _ x y A A guard_sk, Result.andThen_ok, neq_sk hA ok, Sem.run_pure]
    exact hK _ _ h
end

set_option maxHeartbeats 400000 in
theorem add_any (z : Sk) (A : Array Value) (hA : IsSk A z) (ok : z.Ok) (s : ByteArray) (v : Int) (w : World) (hs : s.size ≤ maxLen) (h0 : -2147483648 ≤ v) (h1 : v ≤ 2147483647) :
    Calls Try.prog 78 #[.agg A, .string s, .int .i32 v] w fun e w' => ∃ M, e = .returned (.agg M) ∧ IsSk M (mrg z (one s.data.toList v)) ∧ Below w.heap.size w w' := by
  have ok1 := one_ok s.data.toList v h0 h1
  go_enter Try.func78, Try.ntmps78
  go_wp2_with (first | (refine alloc_sk rfl rfl ?_; intro Z hZ) | (go_at_call 80; refine (one_any s v _ hs h0 h1).mono ?_; rintro e w1 ⟨M, rfl, hM, hb1⟩; have gA := keep hb1 (blk_old (heap_alloc_new w (.cells A 59))); have gR := keep hb1 (blk2 w (.cells A 59) (.cells Z 59)); have HZ := hZ.size; have HB := bnext (below_alloc2 w (.cells A 59) (.cells Z 59)) hb1; clear hb1) | (refine store_sk_new rfl _ _ rfl M _ _ rfl rfl (by rfl) hM (by assumption) ?_) | (refine load_sk rfl _ rfl _ rfl A _ hA (by exact blk_old gA) ?_) | (refine load_sk rfl _ rfl _ rfl M _ hM (by exact heap_alloc_new _ _) ?_) | (go_at_call 59; refine (merge_any z _ A M hA hM ok ok1 _).mono ?_; rintro e w2 ⟨R, rfl, hR, hb2⟩; replace gR := keep hb2 (blk_old gR); replace HB := bnext (bnext HB (below_alloc _ _)) hb2) | (refine store_sk rfl _ _ rfl R _ rfl rfl hR (by exact gR) HZ ?_))
  exact bodyPost_ret (results_sk rfl _ _ _ R _ hR rfl (setRow_blk gR)) rfl ⟨R, rfl, hR, below_setRow _ HB (by omega)⟩
set_option maxHeartbeats 400000 in
theorem tadd_any (z : Sk) (A : Array Value) (hA : IsSk A z) (ok : z.Ok) (s : ByteArray) (v : Int) (w : World) (hs : s.size ≤ maxLen) (h0 : -2147483648 ≤ v) (h1 : v ≤ 2147483647) :
    Calls Try.prog 79 #[.agg A, .string s, .int .i32 v] w fun e w' => ∃ M, e = .returned (.agg M) ∧ IsSk M (mrg z (one s.data.toList v)) ∧ Below w.heap.size w w' := by
  go_enter Try.func79, Try.ntmps79
  go_wp2_with (first | (refine alloc_sk rfl rfl ?_; intro Z hZ) | (refine load_sk rfl _ rfl _ rfl A _ hA (by exact blk_old (heap_alloc_new _ _)) ?_) | (go_at_call 78; refine (add_any z A hA ok s v _ hs h0 h1).mono ?_; rintro e w1 ⟨R, rfl, hR, hb1⟩; have gR := keep hb1 (blk2 w (.cells A 59) (.cells Z 59)); have HB := bnext (below_alloc2 w (.cells A 59) (.cells Z 59)) hb1) | (refine store_sk rfl _ _ rfl R _ rfl rfl hR (by exact gR) hZ.size ?_))
  exact bodyPost_ret (results_sk rfl _ _ _ R _ hR rfl (setRow_blk gR)) rfl ⟨R, rfl, hR, below_setRow _ HB (by omega)⟩
end Go.Proofs.Ytpglbakcjihohab

/-! Plain lemmas on rows of things of several cells each, laid side by side in a block that is known whole or owned; laws of the walk for them (no program is named here). -/
namespace Go.Proofs.Ytpglbakcjihohab
open Go.RowKit

/-- Cells from an offset on, written over. -/
def lay (cur : Array Value) (o : Nat) (A : List Value) : Array Value := (cur.toList.take o ++ A ++ cur.toList.drop (o + A.length)).toArray
theorem take_lay (L A : List Value) (o s n : Nat) (hA : A.length = s) (h : o + s ≤ n) (hn : n ≤ L.length) : (L.take o ++ A ++ L.drop (o + s)).take n = (L.take n).take o ++ A ++ (L.take n).drop (o + s) := by
  have hl : (L.take o ++ A).length = o + s := by simp; omega
  rw [List.take_append, List.take_of_length_le (l := L.take o ++ A) (by omega), hl, List.take_take, Nat.min_eq_left (by omega), List.drop_take]
theorem lay_size {cur : Array Value} {o : Nat} {A : List Value} (h : o + A.length ≤ cur.size) : (lay cur o A).size = cur.size := by
  simp [lay]; omega
theorem lay_get_in {cur : Array Value} {o : Nat} {A : List Value} (h : o + A.length ≤ cur.size) {j : Nat} (hj : j < A.length) : (lay cur o A)[o + j]? = A[j]? := by
  simp only [lay, List.getElem?_toArray, List.append_assoc]
  rw [List.getElem?_append_right (by simp; omega), List.getElem?_append_left (by simp; omega)]
  congr 1; simp; omega
theorem lay_get_out {cur : Array Value} {o : Nat} {A : List Value} (h : o + A.length ≤ cur.size) {j : Nat} (hj : j < o ∨ o + A.length ≤ j) : (lay cur o A)[j]? = cur[j]? := by
  simp only [lay, List.getElem?_toArray, List.append_assoc]
  by_cases hlt : j < o
  · rw [List.getElem?_append_left (by simp; omega), List.getElem?_take, if_pos hlt]; simp
  · have hge : o + A.length ≤ j := by omega
    rw [List.getElem?_append_right (by simp; omega), List.getElem?_append_right (by simp; omega), List.getElem?_drop]
    simp only [List.length_take, Array.length_toList]
    rw [Nat.min_eq_left (by omega), show o + A.length + (j - o - A.length) = j by omega]; simp

section
variable {P : Program} {ops : Array Oper} {rest : List Oper} {o : Oper} {a : Act} {w : World} {K : Act → World → Prop} {Q : Exit → Act → World → Prop}
/-- A value of many cells into the midst of a block that is known whole. -/
theorem wp_store_lay (t : TypeId) (x y : Operand) (ho : o.op = .store t x y) (g off : Nat) (A : Array Value) (hx : a.eval x = .pointer (some ⟨g, off, none⟩)) (hy : a.eval y = .agg A)
    (te : TypeId) (cur : Array Value) (hg : w.heap[g]? = some (.cells cur te)) (hi : (P.info? t).map (·.size) = some A.size) (hf : off + A.size ≤ cur.size) (h1 : A.all (·.oneCell') = true)
    (h : K (a.put o.dst undef) (w.setRow g (lay cur off A.toList))) : o.wp P a w K Q := by
  have hst := run_storeCells_at P g off te A.toList 0 cur w hg (by simpa using hf) (fun v hv => (Array.all_eq_true_iff_forall_mem.1 h1) v (by simpa using hv))
  simp only [Nat.add_zero] at hst
  have hrun : (storeVar t ⟨g, off, none⟩ (.agg A)).run P w = .ok () (w.setRow g (lay cur off A.toList)) := by
    cases hq : P.info? t with
    | none => simp [hq] at hi
    | some i =>
      have hs : A.size = i.size := by simp [hq] at hi; omega
      simp [storeVar, sizeOf, typeInfo, hq, Value.cells, hs, hst, lay]
  unfold Oper.wp execOp
  simp only [ho, hx, hy, Instr.storeAt, Instr.sureAddr, Sem.run_bind, Sem.run_pure, Result.andThen_ok, hrun]
  exact h
theorem wpList_store_lay (hgd : o.guard = none) (t : TypeId) (x y : Operand) (ho : o.op = .store t x y) (g off : Nat) (A : Array Value) (hx : a.eval x = .pointer (some ⟨g, off, none⟩)) (hy : a.eval y = .agg A)
    (te : TypeId) (cur : Array Value) (hg : w.heap[g]? = some (.cells cur te)) (hi : (P.info? t).map (·.size) = some A.size) (hf : off + A.size ≤ cur.size) (h1 : A.all (·.oneCell') = true)
    (h : wpList P ops Q rest (a.put o.dst undef) (w.setRow g (lay cur off A.toList))) : wpList P ops Q (o :: rest) a w :=
  wpList_plain hgd fun _ hK => wp_store_lay t x y ho g off A hx hy te cur hg hi hf h1 (hK _ _ h)
/-- A slice literal of parts of s cells each. -/
theorem wpList_buildAggs (hgd : o.guard = none) (t e : TypeId) (len : Nat) (parts : Array (Nat × Operand)) (ho : o.op = .buildSlice t len parts) (s : Nat) (hs : 0 < s) (vs : List Value)
    (hu : P.underlying t = some (.slice e)) (hsz : (P.info? e).map (·.size) = some s) (hz : ((P.info? e).bind (·.zero)).isSome = true)
    (hparts : (parts.map fun (i, x) => (i, a.eval x)).toList = (vs.zipIdx 0).map fun x => (x.2, x.1)) (hv : ∀ v ∈ vs, v.cells.size = s) (hl : vs.length = len) (hpos : 0 < len) (hsmall : len * s ≤ 2 ^ 24)
    (h : wpList P ops Q rest (a.put o.dst (.slice (some ⟨w.heap.size, 0, none⟩) len len)) (w.alloc (.cells (vs.flatMap fun v => v.cells.toList).toArray e))) : wpList P ops Q (o :: rest) a w := by
  cases hie : P.info? e with
  | none => simp [hie] at hsz
  | some ie =>
    simp only [hie, Option.map_some, Option.some.injEq, Option.bind_some] at hsz hz
    obtain ⟨z, hzz⟩ := Option.isSome_iff_exists.1 hz
    have hp := Nat.mul_pos hpos hs
    refine wpList_buildSlice hgd t e len parts ho _ ie z hu hie hzz (by rw [hsz]; omega) (by rw [hsz]; omega) ?_ h
    rw [hparts, hsz]
    exact Great.fill_whole hs vs _ hv (by simp [hl])
/-- A builtin's copy of things of s cells each, into the head of a block that is known whole. -/
theorem run_copy_cells (w : World) (dT sT ty elem : TypeId) (g o dLen dCap : Nat) (ad : Addr) (sLen sCap s : Nat) (cur : Array Value) (t : TypeId) (cs : List Value)
    (hu : P.underlying dT = some (.slice elem)) (hs : (P.info? elem).map (·.size) = some s)
    (hg : w.heap[g]? = some (.cells cur t)) (hn : cs.length = Nat.min sLen dLen * s)
    (hsrc : ∀ j v, cs[j]? = some v → w.cell? (ad.add j) = some v) (hfit : o + cs.length ≤ cur.size) (h1 : ∀ v ∈ cs, v.oneCell' = true) :
    (Builtin.copy_ #[dT, sT] ty #[.slice (some ⟨g, o, none⟩) dLen dCap, .slice (some ad) sLen sCap]).run P w =
      .ok (goInt (Nat.min sLen dLen)) (w.setRow g (lay cur o cs)) := by
  have hl := run_loadCells_list (P := P) w ad cs hsrc
  have hst := run_storeCells_at P g o t cs 0 cur w hg (by simpa using hfit) h1
  cases hq : P.info? elem with
  | none => simp [hq] at hs
  | some i =>
    have hi : i.size = s := by simpa [hq] using hs
    simp [Builtin.copy_, run_underlying hu, Builtin.lenOf, Builtin.firstCells, sizeOf, typeInfo, hq, hi, ← hn, hl, hst, lay]
theorem run_copy_nil (w : World) (dT sT ty elem : TypeId) (d : Option Addr) (dLen dCap : Nat) (sCap s : Nat)
    (hu : P.underlying dT = some (.slice elem)) (hs : (P.info? elem).map (·.size) = some s) (sp : Option Addr) :
    (Builtin.copy_ #[dT, sT] ty #[.slice d dLen dCap, .slice sp 0 sCap]).run P w = .ok (goInt 0) w := by
  cases hq : P.info? elem with
  | none => simp [hq] at hs
  | some i =>
    cases sp <;> cases d <;> simp [Builtin.copy_, run_underlying hu, Builtin.lenOf, Builtin.firstCells, sizeOf, typeInfo, hq, loadCells, loadCellsFrom, storeCells]
theorem wpList_copy (hgd : o.guard = none) (d s : Operand) (t t' : TypeId) (ho : o.op = .call { callee := .builtin .copy, args := #[d, s], argTypes := #[t, t'] })
    (v u : Value) (hd : a.eval d = v) (hs : a.eval s = u) {v' : Value} {w' : World} (hr : (Builtin.copy_ #[t, t'] o.type #[v, u]).run P w = .ok v' w')
    (h : wpList P ops Q rest (a.put o.dst v') w') : wpList P ops Q (o :: rest) a w := by
  refine wpList_plain hgd fun _ hK => ?_
  unfold Oper.wp execOp
  simp only [ho, resolve, invoke, builtin, Sem.run_bind, Sem.run_pure, Result.andThen_ok, List.map_toArray, List.map_cons, List.map_nil, hd, hs, hr]
  exact hK _ _ h
end

/-! ### Things of several cells -/
structure Cl (α : Type) where
  cells : α → List Value
  size : Nat
  pos' : 0 < size
  len' : ∀ x, (cells x).length = size
  one' : ∀ x, ∀ v ∈ cells x, v.oneCell' = true
theorem Cl.pos {α : Type} {C : Cl α} : 0 < C.size := C.pos'
theorem Cl.len {α : Type} {C : Cl α} (x : α) : (C.cells x).length = C.size := C.len' x
theorem Cl.one {α : Type} {C : Cl α} (x : α) : ∀ v ∈ C.cells x, v.oneCell' = true := C.one' x
def flat {α : Type} (C : Cl α) (l : List α) : List Value := l.flatMap C.cells
section
variable {α : Type} {C : Cl α}
theorem flat_nil : flat C ([] : List α) = [] := rfl
theorem flat_cons (x : α) (l : List α) : flat C (x :: l) = C.cells x ++ flat C l := rfl
theorem flat_append (l m : List α) : flat C (l ++ m) = flat C l ++ flat C m := by simp [flat]
theorem flat_one (x : α) : flat C [x] = C.cells x := by simp [flat]
theorem flat_len (l : List α) : (flat C l).length = l.length * C.size := by
  induction l with
  | nil => simp [flat_nil]
  | cons x l ih => rw [flat_cons, List.length_append, ih, Cl.len, List.length_cons, Nat.succ_mul]; omega
theorem flat_onecell (l : List α) : ∀ v ∈ flat C l, v.oneCell' = true := fun v hv => by
  obtain ⟨x, _, hx⟩ := List.mem_flatMap.1 hv
  exact Cl.one x v hx
theorem flat_get (l : List α) (i : Nat) (x : α) (h : l[i]? = some x) (j : Nat) (hj : j < C.size) : (flat C l)[i * C.size + j]? = (C.cells x)[j]? := by
  induction l generalizing i with
  | nil => simp at h
  | cons y l ih =>
    rw [flat_cons]
    cases i with
    | zero =>
      simp at h; subst h
      rw [List.getElem?_append_left (by rw [Cl.len]; omega)]; simp
    | succ i =>
      rw [List.getElem?_append_right (by rw [Cl.len, Nat.succ_mul]; omega), Cl.len]
      rw [show (i + 1) * C.size + j - C.size = i * C.size + j by rw [Nat.succ_mul]; omega]
      exact ih i (by simpa using h)
theorem flat_set (l : List α) (i : Nat) (x : α) (h : i < l.length) : flat C (l.set i x) = (flat C l).take (i * C.size) ++ C.cells x ++ (flat C l).drop (i * C.size + C.size) := by
  induction l generalizing i with
  | nil => simp at h
  | cons y l ih =>
    cases i with
    | zero =>
      rw [List.set_cons_zero, flat_cons, flat_cons]
      simp [Cl.len]
    | succ i =>
      rw [List.set_cons_succ, flat_cons, flat_cons, ih i (by simpa using h)]
      have e : (i + 1) * C.size = C.size + i * C.size := by rw [Nat.succ_mul]; omega
      rw [e, List.take_append, List.drop_append]
      rw [List.take_of_length_le (l := C.cells y) (by rw [Cl.len]; omega), List.drop_of_length_le (l := C.cells y) (by rw [Cl.len]; omega)]
      simp only [Cl.len, List.append_assoc, List.nil_append]
      rw [show C.size + i * C.size - C.size = i * C.size by omega, show C.size + i * C.size + C.size - C.size = i * C.size + C.size by omega]
theorem flat_take (l : List α) (k : Nat) : flat C (l.take k) = (flat C l).take (k * C.size) := by
  induction l generalizing k with
  | nil => simp [flat_nil]
  | cons y l ih =>
    cases k with
    | zero => simp [flat_nil]
    | succ k =>
      rw [List.take_succ_cons, flat_cons, flat_cons, ih]
      have e : (k + 1) * C.size = C.size + k * C.size := by rw [Nat.succ_mul]; omega
      rw [e, List.take_append, List.take_of_length_le (l := C.cells y) (by rw [Cl.len]; omega), Cl.len, show C.size + k * C.size - C.size = k * C.size by omega]

/-- The things l lie where the slice's address leads. -/
def RowsAt (C : Cl α) (w : World) (p : Option Addr) (l : List α) : Prop :=
  l = [] ∨ ∃ b off, p = some ⟨b, off, none⟩ ∧ b < w.heap.size ∧ ∀ i x, l[i]? = some x → w.rangeAt b (off + i * C.size) (C.cells x)
theorem RowsAt.chg {w w' : World} {p : Option Addr} {l : List α} (h : RowsAt C w p l) (hs : w.heap.size ≤ w'.heap.size) (hb : ∀ b off, p = some ⟨b, off, none⟩ → w'.heap[b]? = w.heap[b]?) : RowsAt C w' p l := by
  rcases h with h | ⟨b, off, ha, hlt, hc⟩
  · exact .inl h
  · refine .inr ⟨b, off, ha, Nat.lt_of_lt_of_le hlt hs, fun i x hx j v hv => ?_⟩
    rw [World.cell?_of_block (w := w) (hb b off ha)]; exact hc i x hx j v hv
theorem RowsAt.below {w w' : World} {p : Option Addr} {l : List α} (h : RowsAt C w p l) (hb : Below w.heap.size w w') : RowsAt C w' p l := by
  rcases h with h | ⟨b, off, ha, hlt, hc⟩
  · exact .inl h
  · refine RowsAt.chg (.inr ⟨b, off, ha, hlt, hc⟩) hb.size fun b' off' e => ?_
    rw [ha] at e; cases e; exact hb.block _ hlt
/-- The slice owns its block, and the things l lie there. -/
def Own (C : Cl α) (w : World) (base : Nat) (e : TypeId) (v : Value) (l : List α) : Prop := w.ownsRow base e (C.size) v l.length (flat C l)
theorem Own.form {w : World} {base : Nat} {e : TypeId} {v : Value} {l : List α} (h : Own C w base e v l) : ∃ p cap, v = .slice p l.length cap ∧ l.length ≤ cap ∧ cap ≤ maxLen ∧ RowsAt C w p l := by
  rcases h.2 with ⟨rfl, hn⟩ | ⟨g, cap, cur, rfl, hb, hg, hc, hm, hsz, hx⟩
  · obtain rfl := List.eq_nil_of_length_eq_zero hn
    exact ⟨none, 0, rfl, by simp, by simp [maxLen], .inl rfl⟩
  · refine ⟨_, cap, rfl, hc, hm, .inr ⟨g, 0, rfl, lt_of_blk hg, fun i x hi j v hv => ?_⟩⟩
    have hj : j < C.size := by rw [← Cl.len x]; exact (List.getElem?_eq_some_iff.1 hv).1
    rw [cell_of_row w g _ cur e (0, 0) hg]
    have e1 := flat_get l i x hi j hj
    rw [hv, ← hx, List.getElem?_take] at e1
    split at e1
    · rw [Nat.zero_add]; simpa using e1
    · cases e1
theorem Own.nil (w : World) (base : Nat) (e : TypeId) : Own C w base e (.slice none 0 0) ([] : List α) := by
  have := World.ownsRow_nil w base e (C.size)
  simpa [Own, flat_nil] using this
theorem Own.mono {w : World} {base base' : Nat} {e : TypeId} {v : Value} {l : List α} (h : Own C w base e v l) (hb : base' ≤ base) : Own C w base' e v l :=
  ⟨h.1, h.2.imp_right fun ⟨g, cap, cur, hv, hg, r⟩ => ⟨g, cap, cur, hv, Nat.le_trans hb hg, r⟩⟩
theorem Own.chg {w w' : World} {base : Nat} {e : TypeId} {v : Value} {l : List α} (h : Own C w base e v l) (hb : ∀ k, v.ownBlock = some k → w'.heap[k]? = w.heap[k]?) : Own C w' base e v l := by
  refine ⟨h.1, ?_⟩
  rcases h.2 with hn | ⟨g, cap, cur, rfl, hg, hgg, r⟩
  · exact .inl hn
  · exact .inr ⟨g, cap, cur, rfl, hg, by rw [hb g (by simp [Value.ownBlock])]; exact hgg, r⟩
theorem Own.below {w w' : World} {base : Nat} {e : TypeId} {v : Value} {l : List α} (h : Own C w base e v l) (hb : Below w.heap.size w w') : Own C w' base e v l :=
  h.chg fun k hk => hb.block k (World.ownsRow.lt h k hk).2
theorem Own.lt {w : World} {base : Nat} {e : TypeId} {v : Value} {l : List α} (h : Own C w base e v l) (k : Nat) (hk : v.ownBlock = some k) : base ≤ k ∧ k < w.heap.size := World.ownsRow.lt h k hk
/-- One thing of an owned row is written over. -/
theorem Own.set {w : World} {base : Nat} {e : TypeId} {g n cap : Nat} {l : List α} (h : Own C w base e (.slice (some ⟨g, 0, none⟩) n cap) l) (i : Nat) (x : α) (hi : i < l.length) :
    ∃ cur, w.heap[g]? = some (.cells cur e) ∧ i * C.size + C.size ≤ cur.size ∧ Own C (w.setRow g (lay cur (i * C.size) (C.cells x))) base e (.slice (some ⟨g, 0, none⟩) n cap) (l.set i x) := by
  rcases h.2 with ⟨hv, _⟩ | ⟨g', cap', cur, hv, hb, hg, hc, hm, hsz, hx⟩
  · cases hv
  · cases hv
    have h1 : i * C.size + C.size ≤ l.length * C.size := by rw [← Nat.succ_mul]; exact Nat.mul_le_mul_right _ hi
    have h2 : l.length * C.size ≤ cap * C.size := Nat.mul_le_mul_right _ hc
    have hfit : i * C.size + C.size ≤ cur.size := by rw [hsz]; omega
    refine ⟨cur, hg, hfit, ?_, .inr ⟨g, cap, lay cur (i * C.size) (C.cells x), ?_, hb, setRow_heap w g cur _ e _ hg, ?_, hm, ?_, ?_⟩⟩
    · rw [flat_len, List.length_set]
    · simp
    · simpa using hc
    · rw [lay_size (by rw [Cl.len]; exact hfit)]; exact hsz
    · rw [flat_set l i x hi, ← hx, List.length_set]
      simp only [lay, Cl.len]
      exact take_lay _ _ _ _ _ (Cl.len x) h1 (by simp; omega)

/-! ### Laws of the walk for slices of such things -/
/-- What the laws ask of a slice's type t, its elements' type e. -/
structure SlT (P : Program) {α : Type} (C : Cl α) (t e : TypeId) (bytes : Nat) : Prop where
  und : P.underlying t = some (.slice e)
  info : (P.info? e).map (fun i => (i.size, i.bytes, i.zero.map (·.cells.size))) = some (C.size, bytes, some (C.size))
theorem SlT.get {P : Program} {t e : TypeId} {bytes : Nat} (h : SlT P C t e bytes) : ∃ i z, P.info? e = some i ∧ i.zero = some z ∧ i.size = C.size ∧ i.bytes = bytes ∧ z.cells.size = C.size := by
  have hh := h.info
  cases hq : P.info? e with
  | none => simp [hq] at hh
  | some i =>
    simp only [hq, Option.map_some, Option.some.injEq, Prod.mk.injEq] at hh
    obtain ⟨h1, h2, h3⟩ := hh
    cases hz : i.zero with
    | none => simp [hz] at h3
    | some z => exact ⟨i, z, rfl, hz, h1, h2, by simpa [hz] using h3⟩
theorem SlT.size {P : Program} {t e : TypeId} {bytes : Nat} (h : SlT P C t e bytes) : (P.info? e).map (·.size) = some (C.size) := by
  obtain ⟨i, z, h1, _, h3, _⟩ := h.get; simp [h1, h3]
theorem SlT.zero {P : Program} {t e : TypeId} {bytes : Nat} (h : SlT P C t e bytes) : ((P.info? e).bind (·.zero)).isSome = true := by
  obtain ⟨i, z, h1, h2, _⟩ := h.get; simp [h1, h2]
/-- 'append(s, ..)' onto a slice that owns its row, or is nil. -/
theorem run_append_cl {P : Program} {t e : TypeId} {bytes : Nat} (T : SlT P C t e bytes) (ty : TypeId) (w : World) (base : Nat) (v : Value) (l : List α) (hown : Own C w base e v l)
    (p : Option Addr) (m c : Nat) (ms : List α) (hm : ms.length = m) (hg : RowsAt C w p ms) (hpos : 0 < m) (h63 : l.length + m ≤ maxLen) (hby : (l.length + m) * bytes ≤ 140737488355328) (hbase : base ≤ w.heap.size) :
    ∃ v' w', (Builtin.append_ #[t, t] ty #[v, .slice p m c]).run P w = .ok v' w' ∧ Own C w' base e v' (l ++ ms) ∧ Own C w' base e v l ∧ w.grownBy w' v.ownBlock ∧ (v'.ownBlock = v.ownBlock ∨ v'.ownBlock = some w.heap.size ∧ w.grownBy w' none) ∧ ∃ g cap, v' = .slice (some ⟨g, 0, none⟩) (l ++ ms).length cap := by
  subst hm
  obtain ⟨i, z, h1, h2, h3, h4, h5⟩ := T.get
  rcases hg with rfl | ⟨b, off, rfl, hlt, hc⟩
  · simp at hpos
  · have hcell : ∀ j u, (flat C ms)[j]? = some u → w.cell? ((⟨b, off, none⟩ : Addr).add j) = some u := fun j u hu => by
      have hj : j < ms.length * C.size := by rw [← flat_len]; exact (List.getElem?_eq_some_iff.1 hu).1
      have hs := Cl.pos (C := C)
      have hq : j / C.size < ms.length := Nat.div_lt_of_lt_mul (by rw [Nat.mul_comm]; exact hj)
      have hr := Nat.mod_lt j hs
      have hd : j / C.size * C.size + j % C.size = j := by rw [Nat.mul_comm]; exact Nat.div_add_mod _ _
      have e1 := flat_get ms (j / C.size) ms[j / C.size] (List.getElem?_eq_getElem hq) (j % C.size) hr
      rw [hd, hu] at e1
      have := hc (j / C.size) _ (List.getElem?_eq_getElem hq) (j % C.size) u e1.symm
      rw [Addr.add_mid]
      rw [show off + j / C.size * C.size + j % C.size = off + j by omega] at this
      exact this
    obtain ⟨v', w', hr, h6, h7, h8, h9⟩ := run_append_own_at (P := P) w base t ty e i z (C.size) bytes T.und h1 h2 h3 h4 h5 Cl.pos v l.length (flat C l) hown ⟨b, off, none⟩ ms.length c (flat C ms) (flat_len ms) hcell (flat_onecell ms) h63 hby hbase
    obtain ⟨g, cap, hv, _, _⟩ := h6.form (by omega)
    have hold : Own C w' base e v l ∧ (v'.ownBlock = v.ownBlock ∨ v'.ownBlock = some w.heap.size ∧ w.grownBy w' none) := by
      rcases hown.2 with ⟨rfl, hn⟩ | ⟨g2, cap2, cur, rfl, hbg, hgg, hnc, hcm, hcs, htake⟩
      · refine ⟨⟨hown.1, .inl ⟨rfl, hn⟩⟩, ?_⟩
        rcases h9 with h9 | h9
        · exact .inl h9
        · exact .inr ⟨h9, h7⟩
      · by_cases hroom : l.length + ms.length ≤ cap2
        · have hfit : l.length * i.size + (flat C ms).length ≤ cur.size := by rw [flat_len, hcs, h3, ← Nat.add_mul]; exact Nat.mul_le_mul_right _ hroom
          have hr2 := run_append_room (P := P) w t ty e i T.und h1 g2 l.length cap2 cur hgg ⟨b, off, none⟩ ms.length c (flat C ms) (by rw [flat_len, h3]) hcell (flat_onecell ms) hroom hfit
          rw [hr2] at hr
          cases hr
          refine ⟨⟨hown.1, .inr ⟨g2, cap2, _, rfl, hbg, setRow_heap w g2 cur _ e _ hgg, hnc, hcm, ?_, ?_⟩⟩, .inl rfl⟩
          · simp only [List.size_toArray, List.length_append, List.length_take, List.length_drop, Array.length_toList]; omega
          · rw [h3, htake, List.append_assoc, List.take_append_of_le_length (by rw [flat_len]; exact Nat.le_refl _)]
            exact List.take_of_length_le (by rw [flat_len]; exact Nat.le_refl _)
        · have holds : ∀ j u, (flat C l)[j]? = some u → w.cell? ((⟨g2, 0, none⟩ : Addr).add j) = some u := World.ownsRow.cells hown (g := g2) rfl
          have hsmall : l.length + ms.length ≤ 9223372036854775807 := by simp only [maxLen] at h63; omega
          have hr2 := run_append_grow (P := P) w t ty e i z T.und h1 h2 ⟨g2, 0, none⟩ l.length cap2 (flat C l) (by rw [flat_len, h3]) holds ⟨b, off, none⟩ ms.length c (flat C ms) (by rw [flat_len, h3]) hcell (by omega) (by omega) (growslice_fits (by omega) (by rw [h4]; exact hby))
          rw [hr2] at hr
          cases hr
          exact ⟨hown.chg fun k hk => Below.heap_alloc w.drew _ k (World.ownsRow.lt hown k hk).2, .inr ⟨rfl, ⟨rfl, rfl, rfl, by simp, fun k hk _ => Below.heap_alloc w.drew _ k hk⟩⟩⟩
    refine ⟨v', w', hr, ?_, hold.1, h7, hold.2, g, cap, ?_⟩
    · rw [Own, flat_append, List.length_append]; exact h6
    · rw [List.length_append]; exact hv
theorem wpList_append_cl {P : Program} {ops : Array Oper} {rest : List Oper} {o : Oper} {a : Act} {w : World} {Q : Exit → Act → World → Prop} (hgd : o.guard = none) (s x : Operand) (t e : TypeId) (bytes : Nat)
    (ho : o.op = .call { callee := .builtin .append, args := #[s, x], argTypes := #[t, t] }) (T : SlT P C t e bytes) (base : Nat) (v : Value) (l : List α) (hs : a.eval s = v) (hown : Own C w base e v l)
    (p : Option Addr) (m c : Nat) (ms : List α) (hx : a.eval x = .slice p m c) (hm : ms.length = m) (hg : RowsAt C w p ms) (hpos : 0 < m) (h63 : l.length + m ≤ maxLen) (hby : (l.length + m) * bytes ≤ 140737488355328) (hbase : base ≤ w.heap.size)
    (h : ∀ v' w', Own C w' base e v' (l ++ ms) → Own C w' base e v l → w.grownBy w' v.ownBlock → (v'.ownBlock = v.ownBlock ∨ v'.ownBlock = some w.heap.size ∧ w.grownBy w' none) → (∃ g cap, v' = .slice (some ⟨g, 0, none⟩) (l ++ ms).length cap) → wpList P ops Q rest (a.put o.dst v') w') : wpList P ops Q (o :: rest) a w := by
  obtain ⟨v', w', hr, h6, h6', h7, h8, h9⟩ := run_append_cl T o.type w base v l hown p m c ms hm hg hpos h63 hby hbase
  refine wpList_plain hgd fun _ hK => ?_
  unfold Oper.wp execOp
  simp only [ho, resolve, invoke, builtin, Sem.run_bind, Sem.run_pure, Result.andThen_ok, List.map_toArray, List.map_cons, List.map_nil, hs, hx, hr]
  exact hK _ _ (h v' w' h6 h6' h7 h8 h9)
/-- A slice literal of some things: a block of its own. -/
theorem wpList_buildCl {P : Program} {ops : Array Oper} {rest : List Oper} {o : Oper} {a : Act} {w : World} {Q : Exit → Act → World → Prop} (hgd : o.guard = none) (t e : TypeId) (bytes : Nat) (T : SlT P C t e bytes) (len : Nat) (parts : Array (Nat × Operand)) (ho : o.op = .buildSlice t len parts)
    (vs : List Value) (ms : List α) (hparts : (parts.map fun (i, x) => (i, a.eval x)).toList = (vs.zipIdx 0).map fun x => (x.2, x.1)) (hv : vs.map (·.cells.toList) = ms.map C.cells) (hl : ms.length = len) (hpos : 0 < len) (hsmall : len * C.size ≤ 2 ^ 24)
    (h : RowsAt C (w.alloc (.cells (flat C ms).toArray e)) (some ⟨w.heap.size, 0, none⟩) ms → wpList P ops Q rest (a.put o.dst (.slice (some ⟨w.heap.size, 0, none⟩) len len)) (w.alloc (.cells (flat C ms).toArray e))) : wpList P ops Q (o :: rest) a w := by
  have hlv : vs.length = len := by have := congrArg List.length hv; simp at this; omega
  have hf : (vs.flatMap fun v => v.cells.toList) = flat C ms := by rw [List.flatMap_def, hv, flat, List.flatMap_def]
  refine wpList_buildAggs hgd t e len parts ho (C.size) Cl.pos vs T.und T.size T.zero hparts (fun v hm => ?_) hlv hpos hsmall ?_
  · have : v.cells.toList ∈ ms.map C.cells := by rw [← hv]; exact List.mem_map_of_mem hm
    obtain ⟨x, _, hx⟩ := List.mem_map.1 this
    have := Cl.len (C := C) x; rw [hx] at this; simpa using this
  · rw [hf]
    refine h (.inr ⟨w.heap.size, 0, rfl, by simp, fun i x hi j u hu => ?_⟩)
    rw [cell_of_row _ _ _ _ _ _ (heap_alloc_new w _)]
    have hj : j < C.size := by rw [← Cl.len (C := C) x]; exact (List.getElem?_eq_some_iff.1 hu).1
    have := flat_get ms i x hi j hj
    rw [hu] at this
    rw [Nat.zero_add]; simpa using this
theorem flat_replicate (x : α) (z : Array Value) (hz : z.toList = C.cells x) (n : Nat) : (madeCells z (n * C.size)).toList = flat C (List.replicate n x) := by
  have hzs : z.size = C.size := by have := congrArg List.length hz; rw [Cl.len] at this; simpa using this
  have hp := Cl.pos (C := C)
  apply List.ext_getElem?
  intro k
  by_cases hk : k < n * C.size
  · have hq : k / C.size < n := Nat.div_lt_of_lt_mul (by rw [Nat.mul_comm]; exact hk)
    have hr := Nat.mod_lt k hp
    have hd : k / C.size * C.size + k % C.size = k := by rw [Nat.mul_comm]; exact Nat.div_add_mod _ _
    have e1 := flat_get (List.replicate n x) (k / C.size) x (by rw [List.getElem?_replicate, if_pos hq]) (k % C.size) hr
    rw [hd] at e1
    rw [e1, ← hz]
    simp only [madeCells, Array.getElem?_toList, Array.getElem?_map]
    rw [Array.getElem?_eq_getElem (by simpa using hk)]
    simp only [Array.getElem_range, Option.map_some, hzs]
    rw [getElem!_pos z (k % C.size) (by omega), Array.getElem?_eq_getElem (by omega)]
  · rw [List.getElem?_eq_none (by simp [madeCells]; omega), List.getElem?_eq_none (by rw [flat_len, List.length_replicate]; omega)]
/-- 'make': so many things of noughts. -/
theorem wpList_make_cl {P : Program} {ops : Array Oper} {rest : List Oper} {o : Oper} {a : Act} {w : World} {Q : Exit → Act → World → Prop} (hgd : o.guard = none) (lo co : Operand) (t e : TypeId) (bytes : Nat) (T : SlT P C t e bytes) (hop : o.op = Op.makeSlice t lo co)
    (x : α) (hx : ((P.info? e).bind (·.zero)).map (·.cells.toList) = some (C.cells x)) (base : Nat) (n : Nat) (L : Int) (hl : a.eval lo = .int .i64 L) (hc : a.eval co = .int .i64 L) (hL : L = (n : Int)) (hn : n ≤ maxLen) (hby : bytes * n ≤ 281474976710656) (hbase : base ≤ w.heap.size)
    (h : ∀ w', Own C w' base e (.slice (some ⟨w.heap.size, 0, none⟩) n n) (List.replicate n x) → w.grownBy w' none → wpList P ops Q rest (a.put o.dst (.slice (some ⟨w.heap.size, 0, none⟩) n n)) w') : wpList P ops Q (o :: rest) a w := by
  obtain ⟨i, z, h1, h2, h3, h4, h5⟩ := T.get
  have hz : z.cells.toList = C.cells x := by simpa [h1, h2] using hx
  refine wpList_make_full w hgd lo co t hop base e i z (C.size) T.und h1 h2 h3 .i64 .i64 L L n hl hc hL hL (by rw [h4]; exact hby) hn hbase fun w' ho hg => h w' ?_ hg
  rw [flat_replicate x z.cells hz n] at ho
  simpa [Own] using ho
theorem setRow_setRow_eq (w : World) (g : Nat) (A : Array Value) : Below g w (w.setRow g A) := ⟨rfl, rfl, rfl, by simp, fun k hk => setRow_other w g k A (by omega)⟩
/-- 'copy' into an owned row that has room for all. -/
theorem run_copy_cl {P : Program} {t e : TypeId} {bytes : Nat} (T : SlT P C t e bytes) (ty : TypeId) (w : World) (base g n cap : Nat) (l : List α) (hown : Own C w base e (.slice (some ⟨g, 0, none⟩) n cap) l) (hn : l.length = n)
    (p : Option Addr) (m c : Nat) (ms : List α) (hm : ms.length = m) (hg : RowsAt C w p ms) (hle : m ≤ n) :
    ∃ w', (Builtin.copy_ #[t, t] ty #[.slice (some ⟨g, 0, none⟩) n cap, .slice p m c]).run P w = .ok (goInt m) w' ∧ Own C w' base e (.slice (some ⟨g, 0, none⟩) n cap) (ms ++ l.drop m) ∧ w.grownBy w' (some g) := by
  subst hm hn
  rcases hg with rfl | ⟨b, off, rfl, hlt, hc⟩
  · refine ⟨w, run_copy_nil w t t ty e _ _ _ _ _ T.und T.size p, by simpa using hown, ⟨rfl, rfl, rfl, Nat.le_refl _, fun _ _ _ => rfl⟩⟩
  · have hcell : ∀ j u, (flat C ms)[j]? = some u → w.cell? ((⟨b, off, none⟩ : Addr).add j) = some u := fun j u hu => by
      have hj : j < ms.length * C.size := by rw [← flat_len]; exact (List.getElem?_eq_some_iff.1 hu).1
      have hs := Cl.pos (C := C)
      have hq : j / C.size < ms.length := Nat.div_lt_of_lt_mul (by rw [Nat.mul_comm]; exact hj)
      have hr := Nat.mod_lt j hs
      have hd : j / C.size * C.size + j % C.size = j := by rw [Nat.mul_comm]; exact Nat.div_add_mod _ _
      have e1 := flat_get ms (j / C.size) ms[j / C.size] (List.getElem?_eq_getElem hq) (j % C.size) hr
      rw [hd, hu] at e1
      have := hc (j / C.size) _ (List.getElem?_eq_getElem hq) (j % C.size) u e1.symm
      rw [Addr.add_mid]
      rw [show off + j / C.size * C.size + j % C.size = off + j by omega] at this
      exact this
    rcases hown.2 with ⟨hv, _⟩ | ⟨g', cap', cur, hv, hb, hgg, hcp, hmx, hsz, hx⟩
    · cases hv
    · cases hv
      have h1 : ms.length * C.size ≤ l.length * C.size := Nat.mul_le_mul_right _ hle
      have h2 : l.length * C.size ≤ cap * C.size := Nat.mul_le_mul_right _ hcp
      have hmin : Nat.min ms.length l.length = ms.length := Nat.min_eq_left hle
      have hr := run_copy_cells (P := P) w t t ty e g 0 l.length cap ⟨b, off, none⟩ ms.length c (C.size) cur e (flat C ms) T.und T.size hgg (by rw [hmin, flat_len]) hcell (by rw [flat_len]; omega) (flat_onecell ms)
      rw [hmin] at hr
      refine ⟨_, hr, ⟨?_, .inr ⟨g, cap, _, ?_, hb, setRow_heap w g cur _ e _ hgg, ?_, hmx, ?_, ?_⟩⟩, ⟨rfl, rfl, rfl, by simp, fun k _ hk => setRow_other w g k _ (fun e => hk (by rw [e]))⟩⟩
      · rw [flat_len]
      · simp; omega
      · simp; omega
      · rw [lay_size (by rw [flat_len]; omega)]; exact hsz
      · have hl2 : (ms ++ l.drop ms.length).length = l.length := by simp; omega
        have hd : flat C (l.drop ms.length) = (flat C l).drop (ms.length * C.size) := by
          have e1 : flat C l = flat C (l.take ms.length) ++ flat C (l.drop ms.length) := by rw [← flat_append, List.take_append_drop]
          rw [e1, List.drop_append, List.drop_of_length_le (l := flat C (l.take ms.length)) (by rw [flat_len]; simp [Nat.min_eq_left hle]), flat_len]
          simp [Nat.min_eq_left hle]
        rw [hl2, flat_append, hd, ← hx]
        have := take_lay cur.toList (flat C ms) 0 (ms.length * C.size) (l.length * C.size) (flat_len ms) (by omega) (by simp; omega)
        simpa [lay, flat_len] using this
end
end Go.Proofs.Ytpglbakcjihohab

/-! An item of P6 to P13 as numbers and as cells; laws of the walk for whole items in memory, alone and in lists. -/
namespace Go.Proofs.Ytpglbakcjihohab
open Go.RowKit
set_option maxRecDepth 100000

structure It where
  leaf : Int
  win : Int
  ver : Int
  fin : Bool
  sk : Sk
def It.cells (x : It) : List Value := .int .i64 x.leaf :: .int .i64 x.win :: .int .i64 x.ver :: .bool x.fin :: x.sk.cells.toList
theorem It.len (x : It) : x.cells.length = 32 := by simp [It.cells, Sk.size_cells]
theorem Sk.one (s : Sk) : ∀ v ∈ s.cells.toList, v.oneCell' = true := fun v hv => Array.all_eq_true_iff_forall_mem.1 (IsSk.one (A := s.cells) rfl) v (by simpa using hv)
theorem It.one (x : It) : ∀ v ∈ x.cells, v.oneCell' = true := fun v hv => by
  simp only [It.cells, List.mem_cons] at hv
  rcases hv with rfl | rfl | rfl | rfl | hv
  · rfl
  · rfl
  · rfl
  · rfl
  · exact x.sk.one v hv
abbrev clIt : Cl It := ⟨It.cells, 32, by decide, It.len, It.one⟩
theorem It.clsize : clIt.size = 32 := rfl
def fitsI (n : Int) : Prop := -9223372036854775808 ≤ n ∧ n ≤ 9223372036854775807
structure It.Ok (x : It) : Prop where
  leaf : fitsI x.leaf
  win : fitsI x.win
  ver : fitsI x.ver
  sk : x.sk.Ok
def IsIt (A : Array Value) (x : It) : Prop := A.toList = x.cells
theorem IsIt.size {A : Array Value} {x : It} (h : IsIt A x) : A.size = 32 := by have := congrArg List.length (show A.toList = x.cells from h); rw [It.len] at this; simpa using this
theorem IsIt.one {A : Array Value} {x : It} (h : IsIt A x) : A.all (·.oneCell') = true :=
  Array.all_eq_true_iff_forall_mem.2 fun v hv => x.one v (by rw [← show A.toList = x.cells from h]; simpa using hv)
theorem IsIt.get0 {A : Array Value} {x : It} (h : IsIt A x) : A[0]? = some (.int .i64 x.leaf) := by rw [← Array.getElem?_toList, show A.toList = x.cells from h]; rfl
theorem IsIt.get1 {A : Array Value} {x : It} (h : IsIt A x) : A[1]? = some (.int .i64 x.win) := by rw [← Array.getElem?_toList, show A.toList = x.cells from h]; rfl
theorem IsIt.get2 {A : Array Value} {x : It} (h : IsIt A x) : A[2]? = some (.int .i64 x.ver) := by rw [← Array.getElem?_toList, show A.toList = x.cells from h]; rfl
theorem IsIt.get3 {A : Array Value} {x : It} (h : IsIt A x) : A[3]? = some (.bool x.fin) := by rw [← Array.getElem?_toList, show A.toList = x.cells from h]; rfl
theorem IsIt.get4 {A : Array Value} {x : It} (h : IsIt A x) (j : Nat) : A[4 + j]? = x.sk.cells[j]? := by
  rw [← Array.getElem?_toList, show A.toList = x.cells from h, Nat.add_comm]; simp [It.cells]
theorem isIt_of (x : It) : IsIt x.cells.toArray x := by simp [IsIt]
def It.zero : It := ⟨0, 0, 0, false, Sk.zero⟩
theorem It.zero_ok : It.zero.Ok := ⟨⟨by decide, by decide⟩, ⟨by decide, by decide⟩, ⟨by decide, by decide⟩, Sk.zero_ok⟩

theorem slIt : SlT Try.prog clIt 32 80 72 := ⟨Try.underlying32, by kernel_rfl⟩
theorem info_it {A : Array Value} {x : It} (h : IsIt A x) : (Try.prog.info? 80).map (·.size) = some A.size := by rw [h.size]; kernel_rfl
theorem info_it' (x : It) : (Try.prog.info? 80).map (·.size) = some x.cells.length := by rw [x.len]; kernel_rfl
theorem zero_it : (Try.prog.info? 80).bind (·.zero) = some (.agg It.zero.cells.toArray) := by kernel_rfl
theorem zeros_it : ((Try.prog.info? 80).bind (·.zero)).map (·.cells.toList) = some (clIt.cells It.zero) := by rw [zero_it]; rfl
theorem built_it3 (x y z : Int) : Try.prog.built 80 [(0, .int .i64 x), (1, .int .i64 y), (2, .int .i64 z)] = some (It.mk x y z false Sk.zero).cells.toArray := by kernel_rfl
theorem built_it2 (x z : Int) : Try.prog.built 80 [(0, .int .i64 x), (2, .int .i64 z)] = some (It.mk x 0 z false Sk.zero).cells.toArray := by kernel_rfl

section
variable {ops : Array Oper} {rest : List Oper} {o : Oper} {a : Act} {w : World} {Q : Exit → Act → World → Prop}
theorem alloc_it (hgd : o.guard = none) (ho : o.op = .alloc 80)
    (h : ∀ Z, IsIt Z It.zero → wpList Try.prog ops Q rest (a.put o.dst (.pointer (some ⟨w.heap.size, 0, none⟩))) (w.alloc (.cells Z 80))) : wpList Try.prog ops Q (o :: rest) a w :=
  wpList_alloc_z hgd _ ho _ zero_it (h _ (isIt_of _))
theorem build_it (hgd : o.guard = none) (parts : Array (Nat × Operand)) (ho : o.op = .build 80 parts) (x : It)
    (hz : Try.prog.built 80 (parts.map fun (i, x) => (i, a.eval x)).toList = some x.cells.toArray)
    (h : ∀ M, IsIt M x → wpList Try.prog ops Q rest (a.put o.dst (.agg M)) w) : wpList Try.prog ops Q (o :: rest) a w :=
  wpList_build_z hgd _ parts ho _ hz (h _ (isIt_of _))
theorem load_it (hgd : o.guard = none) (x : Operand) (ho : o.op = .load 80 x) (g : Nat) (hx : a.eval x = .pointer (some ⟨g, 0, none⟩)) (A : Array Value) (s : It) (hA : IsIt A s)
    (hg : w.heap[g]? = some (.cells A 80)) (h : wpList Try.prog ops Q rest (a.put o.dst (.agg A)) w) : wpList Try.prog ops Q (o :: rest) a w :=
  wpList_load_row hgd _ x ho g hx _ A (0, 0) _ hg Try.underlying80 rfl (info_it hA) h
/-- An item out of the midst of a block. -/
theorem load_it_mid (hgd : o.guard = none) (x : Operand) (ho : o.op = .load 80 x) (g off : Nat) (hx : a.eval x = .pointer (some ⟨g, off, none⟩)) (s : It)
    (hg : w.rangeAt g off s.cells) (h : ∀ A, IsIt A s → wpList Try.prog ops Q rest (a.put o.dst (.agg A)) w) : wpList Try.prog ops Q (o :: rest) a w :=
  wpList_load_mid hgd _ x ho g off hx s.cells _ hg Try.underlying80 rfl (info_it' s) (h _ (isIt_of _))
theorem still_load_it_mid {Q : Act → Prop} (hw : Region.wanted o (yielded ops a.tmps) = true) (x : Operand) (ho : o.op = .load 80 x) (g off : Nat) (hx : a.eval x = .pointer (some ⟨g, off, none⟩)) (A : Array Value) (s : It) (hA : IsIt A s)
    (hg : w.rangeAt g off s.cells) (h : wpStill Try.prog ops w Q rest (a.put o.dst (.agg A))) : wpStill Try.prog ops w Q (o :: rest) a :=
  wpStill_step fun _ hK => by
    have e : A = s.cells.toArray := by rw [← show A.toList = s.cells from hA]
    subst e
    rw [if_pos hw]
    unfold Oper.still execOp
    simp only [ho, hx, Instr.loadAt, Instr.sureAddr, Sem.run_bind, Sem.run_pure, Result.andThen_ok, run_loadVar_mid w g off _ s.cells _ hg Try.underlying80 rfl (info_it' s), Oper.stillUpon]
    exact ⟨trivial, hK _ h⟩
theorem still_load_it {Q : Act → Prop} (hw : Region.wanted o (yielded ops a.tmps) = true) (x : Operand) (ho : o.op = .load 80 x) (g : Nat) (hx : a.eval x = .pointer (some ⟨g, 0, none⟩)) (A : Array Value) (s : It) (hA : IsIt A s)
    (hg : w.heap[g]? = some (.cells A 80)) (h : wpStill Try.prog ops w Q rest (a.put o.dst (.agg A))) : wpStill Try.prog ops w Q (o :: rest) a :=
  wpStill_step fun _ hK => by
    rw [if_pos hw]
    unfold Oper.still execOp
    simp only [ho, hx, Instr.loadAt, Instr.sureAddr, Sem.run_bind, Sem.run_pure, Result.andThen_ok, run_loadVar_row w g _ _ A (0, 0) _ hg Try.underlying80 rfl (info_it hA), Oper.stillUpon]
    exact ⟨trivial, hK _ h⟩
theorem store_it_new {o0 : World} {c : Array Value} {n : Nat} (hgd : o.guard = none) (x y : Operand) (ho : o.op = .store 80 x y) (A : Array Value) (s z : It)
    (hx : a.eval x = .pointer (some ⟨n, 0, none⟩)) (hy : a.eval y = .agg A) (hn : n = o0.heap.size) (hA : IsIt A s) (hc : IsIt c z)
    (h : wpList Try.prog ops Q rest (a.put o.dst undef) (o0.alloc (.cells A 80))) : wpList Try.prog ops Q (o :: rest) a (o0.alloc (.cells c 80)) :=
  wpList_store_new hgd x y ho A hx hy hn (info_it hA) (by rw [hA.size, hc.size]) hA.one h
theorem store_it {c : Array Value} {g : Nat} (hgd : o.guard = none) (x y : Operand) (ho : o.op = .store 80 x y) (A : Array Value) (s : It)
    (hx : a.eval x = .pointer (some ⟨g, 0, none⟩)) (hy : a.eval y = .agg A) (hA : IsIt A s) (hg : w.heap[g]? = some (.cells c 80)) (hc : c.size = 32)
    (h : wpList Try.prog ops Q rest (a.put o.dst undef) (w.setRow g A)) : wpList Try.prog ops Q (o :: rest) a w :=
  wpList_store_row hgd _ x y ho g A hx hy _ c hg (info_it hA) (by rw [hA.size, hc]) hA.one h
/-- An item into an owned list. -/
theorem store_it_own (hgd : o.guard = none) (x y : Operand) (ho : o.op = .store 80 x y) (g k n cap base off : Nat) (A : Array Value) (s : It) (l : List It)
    (hx : a.eval x = .pointer (some ⟨g, off, none⟩)) (hy : a.eval y = .agg A) (hA : IsIt A s) (hown : Own clIt w base 80 (.slice (some ⟨g, 0, none⟩) n cap) l) (hk : k < l.length) (hoff : off = k * 32)
    (h : ∀ w', Own clIt w' base 80 (.slice (some ⟨g, 0, none⟩) n cap) (l.set k s) → w.grownBy w' (some g) → wpList Try.prog ops Q rest (a.put o.dst undef) w') : wpList Try.prog ops Q (o :: rest) a w := by
  obtain ⟨cur, h1, h2, h3⟩ := hown.set k s hk
  subst hoff
  rw [It.clsize] at h2 h3
  have e : A.toList = clIt.cells s := hA
  refine wpList_store_lay hgd _ x y ho g (k * 32) A hx hy _ cur h1 (info_it hA) (by rw [hA.size]; exact h2) hA.one ?_
  rw [e]
  exact h _ h3 ⟨rfl, rfl, rfl, by simp, fun j _ hj => setRow_other w g j _ (fun e => hj (by rw [e]))⟩
/-- A list of so many items of the same cells, in a block of its own. -/
theorem build1_it (hgd : o.guard = none) (x : Operand) (ho : o.op = .buildSlice 32 1 #[(0, x)]) (A : Array Value) (s : It) (hA : IsIt A s) (hx : a.eval x = .agg A)
    (h : RowsAt clIt (w.alloc (.cells (flat clIt [s]).toArray 80)) (some ⟨w.heap.size, 0, none⟩) [s] → wpList Try.prog ops Q rest (a.put o.dst (.slice (some ⟨w.heap.size, 0, none⟩) 1 1)) (w.alloc (.cells (flat clIt [s]).toArray 80))) : wpList Try.prog ops Q (o :: rest) a w :=
  wpList_buildCl hgd _ _ 72 slIt 1 _ ho [.agg A] [s] (by simp [hx]) (by simp only [List.map_cons, List.map_nil, Value.cells]; rw [show A.toList = clIt.cells s from hA]) rfl (by decide) (by decide) h
theorem build2_it (hgd : o.guard = none) (x y : Operand) (ho : o.op = .buildSlice 32 2 #[(0, x), (1, y)]) (A : Array Value) (s : It) (hA : IsIt A s) (hx : a.eval x = .agg A) (hy : a.eval y = .agg A)
    (h : RowsAt clIt (w.alloc (.cells (flat clIt [s, s]).toArray 80)) (some ⟨w.heap.size, 0, none⟩) [s, s] → wpList Try.prog ops Q rest (a.put o.dst (.slice (some ⟨w.heap.size, 0, none⟩) 2 2)) (w.alloc (.cells (flat clIt [s, s]).toArray 80))) : wpList Try.prog ops Q (o :: rest) a w :=
  wpList_buildCl hgd _ _ 72 slIt 2 _ ho [.agg A, .agg A] [s, s] (by simp [hx, hy]) (by simp only [List.map_cons, List.map_nil, Value.cells]; rw [show A.toList = clIt.cells s from hA]) rfl (by decide) (by decide) h
theorem build3_it (hgd : o.guard = none) (x y z : Operand) (ho : o.op = .buildSlice 32 3 #[(0, x), (1, y), (2, z)]) (A : Array Value) (s : It) (hA : IsIt A s) (hx : a.eval x = .agg A) (hy : a.eval y = .agg A) (hz : a.eval z = .agg A)
    (h : RowsAt clIt (w.alloc (.cells (flat clIt [s, s, s]).toArray 80)) (some ⟨w.heap.size, 0, none⟩) [s, s, s] → wpList Try.prog ops Q rest (a.put o.dst (.slice (some ⟨w.heap.size, 0, none⟩) 3 3)) (w.alloc (.cells (flat clIt [s, s, s]).toArray 80))) : wpList Try.prog ops Q (o :: rest) a w :=
  wpList_buildCl hgd _ _ 72 slIt 3 _ ho [.agg A, .agg A, .agg A] [s, s, s] (by simp [hx, hy, hz]) (by simp only [List.map_cons, List.map_nil, Value.cells]; rw [show A.toList = clIt.cells s from hA]) rfl (by decide) (by decide) h
/-- 'append' to an owned list of items. -/
theorem append_it (hgd : o.guard = none) (s x : Operand) (ho : o.op = .call { callee := .builtin .append, args := #[s, x], argTypes := #[32, 32] }) (base : Nat) (v : Value) (l : List It) (hs : a.eval s = v) (hown : Own clIt w base 80 v l)
    (p : Option Addr) (m c : Nat) (ms : List It) (hx : a.eval x = .slice p m c) (hm : ms.length = m) (hg : RowsAt clIt w p ms) (hpos : 0 < m) (hl : l.length + m ≤ 1000000000) (hbase : base ≤ w.heap.size)
    (h : ∀ v' w', Own clIt w' base 80 v' (l ++ ms) → Own clIt w' base 80 v l → w.grownBy w' v.ownBlock → (v'.ownBlock = v.ownBlock ∨ v'.ownBlock = some w.heap.size ∧ w.grownBy w' none) → (∃ g cap, v' = .slice (some ⟨g, 0, none⟩) (l ++ ms).length cap) → wpList Try.prog ops Q rest (a.put o.dst v') w') : wpList Try.prog ops Q (o :: rest) a w :=
  wpList_append_cl hgd s x _ _ 72 ho slIt base v l hs hown p m c ms hx hm hg hpos (by simp only [maxLen]; omega) (by omega) hbase h
end

/-! ### '==' of two items of the same cells -/
theorem cellsOf_it : Try.prog.cellsOf 80 = 32 := by kernel_rfl
theorem cellsOf_int : Try.prog.cellsOf 3 = 1 := by kernel_rfl
theorem cellsOf_bool : Try.prog.cellsOf 4 = 1 := by kernel_rfl
theorem keys_bool {cs : List Value} {i : Nat} {b : Bool} (d : Nat) (h : cs[i]? = some (.bool b)) : ∃ y, Try.prog.keyLits (d + 1) 4 ((cs.drop i).take 1) = some y := by
  have e : (cs.drop i).take 1 = [.bool b] := by
    obtain ⟨hi, hv⟩ := List.getElem?_eq_some_iff.1 h
    rw [List.drop_eq_getElem_cons hi, hv]; simp
  rw [e]
  exact ⟨[.bool b], by simp [Program.keyLits, Try.underlying4]⟩
theorem keys_it {A : Array Value} {x : It} (hA : IsIt A x) (ok : x.Ok) : ∃ la, Try.prog.keyLits 4 80 A.toList = some la := by
  have hl : A.toList.length = 32 := by simpa using hA.size
  obtain ⟨a0, a1⟩ := ok.leaf; obtain ⟨b0, b1⟩ := ok.win; obtain ⟨c0, c1⟩ := ok.ver
  obtain ⟨y0, k0⟩ := keys_int (cs := A.toList) (n := x.leaf) (k := .i64) (i := 0) 2 Try.underlying3 (by simpa using hA.get0) (by simp [Lit.wf, IntKind.min, IntKind.max, IntKind.signed, IntKind.bits]; omega)
  obtain ⟨y1, k1⟩ := keys_int (cs := A.toList) (n := x.win) (k := .i64) (i := 1) 2 Try.underlying3 (by simpa using hA.get1) (by simp [Lit.wf, IntKind.min, IntKind.max, IntKind.signed, IntKind.bits]; omega)
  obtain ⟨y2, k2⟩ := keys_int (cs := A.toList) (n := x.ver) (k := .i64) (i := 2) 2 Try.underlying3 (by simpa using hA.get2) (by simp [Lit.wf, IntKind.min, IntKind.max, IntKind.signed, IntKind.bits]; omega)
  obtain ⟨y3, k3⟩ := keys_bool (cs := A.toList) (b := x.fin) (i := 3) 2 (by simpa using hA.get3)
  have e4 : (A.toList.drop 4).take 28 = x.sk.cells.toList := by
    rw [show A.toList = x.cells from hA, It.cells]
    simp only [List.drop_succ_cons, List.drop_zero]
    exact List.take_of_length_le (by simp [Sk.size_cells])
  obtain ⟨y4, k4⟩ := keys_sk (A := x.sk.cells) (s := x.sk) rfl ok.sk
  rw [← e4] at k4
  refine ⟨[y0, y1, y2, y3, y4].flatten, ?_⟩
  rw [show (4 : Nat) = 3 + 1 from rfl]
  unfold Program.keyLits
  rw [Try.underlying80]
  simp only [hl, cellsOf_it, cellsOf_int, cellsOf_bool, cellsOf_sk, List.mapM_cons, List.mapM_nil, k0, k1, k2, k3, k4]
  simp
theorem eqAt_it : EqAt Try.prog 10000 80 := run_equalIn_deep 9996 4 80 (by kernel_rfl)
theorem eq_it {A : Array Value} {x : It} (hA : IsIt A x) (ok : x.Ok) (w : World) : (Op.equalIn 10000 80 (.agg A) (.agg A)).run Try.prog w = .ok true w := by
  obtain ⟨la, ha⟩ := keys_it hA ok
  have hf : (Value.agg A).formed Try.prog 80 = true := by
    simp only [Value.formed, Try.underlying80, hA.size, cellsOf_it]; rfl
  obtain ⟨r, hr, hi⟩ := eqAt_it w 4 4 (.agg A) (.agg A) la la hf hf ha ha
  rw [hr, hi.2 rfl]
theorem neq_it {A : Array Value} {x : It} (hA : IsIt A x) (ok : x.Ok) (w : World) : (binOp .neq 80 (.agg A) (.agg A)).run Try.prog w = .ok (.bool false) w := by
  rw [run_neq_struct, eq_it hA ok]; rfl
theorem guard_it : Try.prog.eqGuardType Try.prog.depth 80 = false := by kernel_rfl
section
variable {ops : Array Oper} {rest : List Oper} {o : Oper} {a : Act} {w : World}
theorem still_neq_it {Q : Act → Prop} (hw : Region.wanted o (yielded ops a.tmps) = true) (x y : Operand) (t' : TypeId) (ho : o.op = .binOp .neq 80 x y t') (A : Array Value) (s : It) (hA : IsIt A s) (ok : s.Ok) (hx : a.eval x = .agg A) (hy : a.eval y = .agg A)
    (h : wpStill Try.prog ops w Q rest (a.put o.dst (.bool false))) : wpStill Try.prog ops w Q (o :: rest) a :=
  wpStill_step fun _ hK => by
    rw [if_pos hw]
    unfold Oper.still execOp
    simp only [ho, hx, hy, Sem.run_bind, run_eqGuard_agg w .neq _ x y A A guard_it, Result.andThen_ok, neq_it hA ok, Sem.run_pure, Oper.stillUpon]
    exact ⟨trivial, hK _ h⟩
end
end Go.Proofs.Ytpglbakcjihohab

/-! 'sameItems', 'mark', 'items' and the lists with spare room, for every list of items. -/
namespace Go.Proofs.Ytpglbakcjihohab
open Go.RowKit
set_option maxRecDepth 100000

theorem mixed : Try.prog.follows .mixedOrders = true := by kernel_rfl
def AllOkI (l : List It) : Prop := ∀ (i : Nat) (x : It), l[i]? = some x → x.Ok
theorem below_drawn {B : Nat} {w w' : World} (h : Below B w w') (n : Nat) : Below B w { w' with drawn := n } := ⟨h.os, h.tape, h.output, h.size, h.block⟩
theorem RowsAt.pos {α : Type} {C : Cl α} {w : World} {p : Option Addr} {l : List α} (h : RowsAt C w p l) (k : Nat) (hk : k < l.length) : ∃ b off, p = some ⟨b, off, none⟩ ∧ b < w.heap.size ∧ ∀ i x, l[i]? = some x → w.rangeAt b (off + i * C.size) (C.cells x) := by
  rcases h with rfl | h
  · simp at hk
  · exact h
theorem range_below {w w' : World} {b off : Nat} {cs : List Value} (hb : Below w.heap.size w w') (hlt : b < w.heap.size) (h : w.rangeAt b off cs) : w'.rangeAt b off cs := fun j v hv => by
  rw [hb.cell (p := ⟨b, off + j, none⟩) hlt]; exact h j v hv


/-- The mark of the k-th list. -/
def mk (k : Int) : It := ⟨-1 - k, -1 - k, -1 - k, false, Sk.zero⟩
theorem mk_ok (k : Int) (h0 : 0 ≤ k) (h1 : k ≤ 1000000000000) : (mk k).Ok := by
  refine ⟨⟨?_, ?_⟩, ⟨?_, ?_⟩, ⟨?_, ?_⟩, Sk.zero_ok⟩ <;> simp only [mk] <;> omega
/-- The answer of a function whose result is an item in memory. -/
theorem results_it {fn : Func} {p : Tmp} (h : fn.results = #[.cell p 80]) (tmps : Array Value) (w : World) (g : Nat) (A : Array Value) (s : It) (hA : IsIt A s)
    (hp : tmps.getD p undef = .pointer (some ⟨g, 0, none⟩)) (hg : w.heap[g]? = some (.cells A 80)) : (results fn tmps).run Try.prog w = .ok (.agg A) w :=
  results_cell_row h tmps w g _ A (0, 0) _ hp hg Try.underlying80 rfl (info_it hA)

theorem grown_below {w w' : World} {row : Option Nat} (h : w.grownBy w' row) (B : Nat) (hB : B ≤ w.heap.size) (hr : ∀ k, row = some k → B ≤ k) : Below B w w' :=
  ⟨h.os, h.tape, h.output, h.size, fun k hk => h.block k (by omega) (fun e => by have := hr k e.symm; omega)⟩

/-! ### Lists of items that are handed in, with spare room -/
def spareIt : It := ⟨-5, 0, -5, false, Sk.zero⟩
def overIt : It := ⟨-7, -7, -7, false, Sk.zero⟩
theorem spare_ok : spareIt.Ok := ⟨⟨by decide, by decide⟩, ⟨by decide, by decide⟩, ⟨by decide, by decide⟩, Sk.zero_ok⟩
/-- The list with its room as roomy has written it up to k. -/
def roomed (l : List It) (k : Nat) : List It := l ++ List.replicate k spareIt ++ List.replicate (8 - k) It.zero
theorem roomed_len (l : List It) (k : Nat) (hk : k ≤ 8) : (roomed l k).length = l.length + 8 := by simp [roomed]; omega
theorem roomed_set (l : List It) (k : Nat) (hk : k < 8) : (roomed l k).set (l.length + k) spareIt = roomed l (k + 1) := by
  unfold roomed
  rw [List.append_assoc, List.set_append_right _ _ (by omega), List.set_append_right _ _ (by simp)]
  rw [show 8 - k = (8 - (k + 1)) + 1 by omega, List.replicate_succ, List.length_replicate, show l.length + k - l.length - k = 0 by omega, List.set_cons_zero, List.replicate_succ', List.append_assoc, List.append_assoc]
  rfl
/-- What roomyItems gives: the list, in a row of its own with eight marked places behind. -/
def Roomy (w : World) (base : Nat) (p : Option Addr) (l : List It) : Prop := ∃ g, p = some ⟨g, 0, none⟩ ∧ Own clIt w base 80 (.slice p (l.length + 8) (l.length + 8)) (roomed l 8)
end Go.Proofs.Ytpglbakcjihohab

/-! 'untouchedItems' and 'blotItems', and the same three for lists of numbers. -/
namespace Go.Proofs.Ytpglbakcjihohab
open Go.RowKit
set_option maxRecDepth 100000

theorem roomed_get (l : List It) (i : Nat) (hi : i < l.length + 8) : (roomed l 8)[i]? = some (if h : i < l.length then l[i] else spareIt) := by
  unfold roomed
  by_cases h : i < l.length
  · rw [dif_pos h]; simp [List.getElem?_append, h]
  · rw [dif_neg h]; simp only [Nat.sub_self, List.replicate_zero, List.append_nil]; rw [List.getElem?_append_right (by omega), List.getElem?_replicate, if_pos (by omega)]
theorem Own.range {w : World} {base : Nat} {e : TypeId} {g n cap : Nat} {l : List It} (h : Own clIt w base e (.slice (some ⟨g, 0, none⟩) n cap) l) (k : Nat) (x : It) (hx : l[k]? = some x) : w.rangeAt g (k * 32) x.cells := by
  obtain ⟨p, c, hv, _, _, hr⟩ := h.form
  cases hv
  rcases hr with rfl | ⟨b, off, e, _, hc⟩
  · simp at hx
  · cases e; have := hc k x hx; rw [Nat.zero_add] at this; exact this

end Go.Proofs.Ytpglbakcjihohab

/-! Lists of numbers that are handed in, with spare room: 'roomy', 'untouched', 'blot'; IsTree, IsWidth, num, pick. -/
namespace Go.Proofs.Ytpglbakcjihohab
open Go.RowKit
set_option maxRecDepth 100000

abbrev clInt : Cl Int := ⟨fun n => [.int .i64 n], 1, by decide, fun _ => rfl, fun _ v hv => by simp only [List.mem_singleton] at hv; subst hv; rfl⟩
theorem Int.clsize : clInt.size = 1 := rfl
theorem slInt : SlT Try.prog clInt 22 3 8 := ⟨Try.underlying22, by kernel_rfl⟩
theorem zeros_int : ((Try.prog.info? 3).bind (·.zero)).map (·.cells.toList) = some (clInt.cells (0 : Int)) := by kernel_rfl
theorem cells_int (x : Int) : clInt.cells x = [.int .i64 x] := rfl
theorem flat_ints (l : List Int) : flat clInt l = l.map (Value.int .i64) := by
  induction l with
  | nil => rfl
  | cons x l ih => rw [flat_cons, ih]; rfl
theorem lay_one (cur : Array Value) (k : Nat) (v : Value) (hk : k < cur.size) : lay cur k [v] = cur.setIfInBounds k v := by
  apply Array.ext_getElem?
  intro j
  by_cases e : j = k
  · subst e
    have := lay_get_in (cur := cur) (o := j) (A := [v]) (by simp; omega) (j := 0) (by simp)
    rw [Nat.add_zero] at this
    rw [this]; simp [hk]
  · rw [lay_get_out (by simp; omega) (by simp; omega), Array.getElem?_setIfInBounds_ne (by omega)]
/-- One number of an owned row: read, and written over. -/
theorem Own.int_at {w : World} {base : Nat} {e : TypeId} {g n cap : Nat} {l : List Int} (h : Own clInt w base e (.slice (some ⟨g, 0, none⟩) n cap) l) (k : Nat) (hk : k < l.length) :
    w.cell? ⟨g, k, none⟩ = some (.int .i64 l[k]) ∧ w.frozen? ⟨g, k, none⟩ = false ∧ ∀ x : Int, Own clInt (w.setCell ⟨g, k, none⟩ (.int .i64 x)) base e (.slice (some ⟨g, 0, none⟩) n cap) (l.set k x) := by
  obtain ⟨p, c, hv, _, _, hr⟩ := h.form
  cases hv
  rcases hr with rfl | ⟨b, off, e1, _, hc⟩
  · simp at hk
  · cases e1
    refine ⟨?_, ?_, fun x => ?_⟩
    · have := hc k l[k] (List.getElem?_eq_getElem hk) 0 (.int .i64 l[k]) rfl
      simpa [Int.clsize] using this
    · obtain ⟨cur, h1, _⟩ := h.set k 0 hk
      exact frozen_of_row _ _ _ _ _ h1
    · obtain ⟨cur, h1, h2, h3⟩ := h.set k x hk
      rw [Int.clsize, Nat.mul_one] at h2 h3
      refine h3.chg fun j hj => ?_
      obtain rfl : g = j := by simpa [Value.ownBlock] using hj
      rw [heap_setCell_same _ _ _ _ _ _ h1, setRow_heap w g cur _ e _ h1, cells_int, lay_one cur k _ (by omega)]
def roomedN (l : List Int) (k : Nat) : List Int := l ++ List.replicate k (-5) ++ List.replicate (8 - k) 0
theorem roomedN_len (l : List Int) (k : Nat) (hk : k ≤ 8) : (roomedN l k).length = l.length + 8 := by simp [roomedN]; omega
theorem roomedN_set (l : List Int) (k : Nat) (hk : k < 8) : (roomedN l k).set (l.length + k) (-5) = roomedN l (k + 1) := by
  unfold roomedN
  rw [List.append_assoc, List.set_append_right _ _ (by omega), List.set_append_right _ _ (by simp)]
  rw [show 8 - k = (8 - (k + 1)) + 1 by omega, List.replicate_succ, List.length_replicate, show l.length + k - l.length - k = 0 by omega, List.set_cons_zero, List.replicate_succ', List.append_assoc, List.append_assoc]
  rfl
theorem roomedN_get (l : List Int) (i : Nat) (hi : i < l.length + 8) : (roomedN l 8)[i]? = some (if h : i < l.length then l[i] else -5) := by
  unfold roomedN
  by_cases h : i < l.length
  · rw [dif_pos h]; simp [List.getElem?_append, h]
  · rw [dif_neg h]; simp only [Nat.sub_self, List.replicate_zero, List.append_nil]; rw [List.getElem?_append_right (by omega), List.getElem?_replicate, if_pos (by omega)]
def RoomyN (w : World) (base : Nat) (p : Option Addr) (l : List Int) : Prop := ∃ g, p = some ⟨g, 0, none⟩ ∧ Own clInt w base 3 (.slice p (l.length + 8) (l.length + 8)) (roomedN l 8)
theorem RowsAt.int_at {w w' : World} {q : Option Addr} {l : List Int} (h : RowsAt clInt w q l) (hB : Below w.heap.size w w') (k : Nat) (hk : k < l.length) : ∃ b off, q = some ⟨b, off, none⟩ ∧ b < w.heap.size ∧ w'.cell? ⟨b, off + k, none⟩ = some (.int .i64 l[k]) := by
  obtain ⟨b, off, rfl, hlt, hc⟩ := h.pos k hk
  refine ⟨b, off, rfl, hlt, ?_⟩
  have := range_below hB hlt (hc k l[k] (List.getElem?_eq_getElem hk)) 0 (.int .i64 l[k]) rfl
  simpa [Int.clsize] using this
end Go.Proofs.Ytpglbakcjihohab

/-! The book of lists that came out: 'marked', 'reads'. -/
namespace Go.Proofs.Ytpglbakcjihohab
open Go.RowKit
set_option maxRecDepth 100000

/-- A slice as a thing of one cell. -/
structure Sl where
  p : Option Addr
  n : Nat
  c : Nat
def Sl.val (s : Sl) : Value := .slice s.p s.n s.c
abbrev clSl : Cl Sl := ⟨fun s => [s.val], 1, by decide, fun _ => rfl, fun _ v hv => by simp only [List.mem_singleton] at hv; subst hv; rfl⟩
theorem Sl.clsize : clSl.size = 1 := rfl
theorem slSl : SlT Try.prog clSl 43 32 24 := ⟨Try.underlying43, by kernel_rfl⟩
theorem RowsAt.sl_at {w w' : World} {q : Option Addr} {l : List Sl} (h : RowsAt clSl w q l) (hB : Below w.heap.size w w') (k : Nat) (s : Sl) (hs : l[k]? = some s) : ∃ b off, q = some ⟨b, off, none⟩ ∧ b < w.heap.size ∧ w'.cell? ⟨b, off + k, none⟩ = some (.slice s.p s.n s.c) := by
  obtain ⟨b, off, rfl, hlt, hc⟩ := h.pos k (by obtain ⟨h, _⟩ := List.getElem?_eq_some_iff.1 hs; exact h)
  refine ⟨b, off, rfl, hlt, ?_⟩
  have := range_below hB hlt (hc k s hs) 0 s.val rfl
  simpa [Sl.clsize, Sl.val] using this
/-- In each list stand marks of its own alone. -/
def Marked (w : World) (L : List Sl) (each : Nat) : Prop := ∀ (k : Nat) (s : Sl), L[k]? = some s → s.n ≤ 1000000000 ∧ RowsAt clIt w s.p (List.replicate s.n (mk ((k / each : Nat) : Int)))
theorem cell_keep {w w' : World} {p : Addr} {v : Value} (hb : Below w.heap.size w w') (h : w.cell? p = some v) : w'.cell? p = some v := by
  rw [hb.cell (block_lt_of_cell h)]; exact h
end Go.Proofs.Ytpglbakcjihohab

/-! Whose block is whose; the book: 'reads', 'keep'. -/
namespace Go.Proofs.Ytpglbakcjihohab
open Go.RowKit
set_option maxRecDepth 100000

/-- Whose a block of memory is: nobody's; an argument's; the game's; the book's two lists; a kept list's; the packets' list; a laid packet's items; the store's i-th; the document's store's i-th. -/
structure Tag where
  kind : Nat
  num : Nat
abbrev Tag.free : Tag := ⟨0, 0⟩
abbrev Tag.arg : Tag := ⟨1, 0⟩
abbrev Tag.gm : Tag := ⟨2, 0⟩
abbrev Tag.bL : Tag := ⟨3, 0⟩
abbrev Tag.bT : Tag := ⟨4, 0⟩
abbrev Tag.bI : Tag := ⟨5, 0⟩
abbrev Tag.ld : Tag := ⟨6, 0⟩
abbrev Tag.ldI : Tag := ⟨7, 0⟩
abbrev Tag.st (i : Nat) : Tag := ⟨8, i⟩
abbrev Tag.wd (i : Nat) : Tag := ⟨9, i⟩
abbrev Ghost := Nat → Tag
/-- The slice's block, if there is one, is t's. -/
def TgV (own : Ghost) (v : Value) (t : Tag) : Prop := ∀ k, v.ownBlock = some k → own k = t
/-- All blocks but nobody's, and some of certain owners, are as they were. -/
structure Fr (own : Ghost) (S : Tag → Prop) (w w' : World) : Prop where
  os : w'.os = w.os
  tape : w'.tape = w.tape
  output : w'.output = w.output
  size : w.heap.size ≤ w'.heap.size
  block : ∀ k, k < w.heap.size → own k ≠ .free → ¬ S (own k) → w'.heap[k]? = w.heap[k]?
theorem Fr.refl (own : Ghost) (S : Tag → Prop) (w : World) : Fr own S w w := ⟨rfl, rfl, rfl, Nat.le_refl _, fun _ _ _ _ => rfl⟩
/-- The owners of what was somebody's are still the same. -/
def Same (w : World) (own own' : Ghost) : Prop := ∀ k, k < w.heap.size → own k ≠ .free → own' k = own k
theorem Same.refl (w : World) (own : Ghost) : Same w own own := fun _ _ _ => rfl
theorem Same.trans {w w1 : World} {own own1 own2 : Ghost} (h : Same w own own1) (hs : w.heap.size ≤ w1.heap.size) (k : Same w1 own1 own2) : Same w own own2 := fun i hi hf => by
  have e := h i hi hf
  rw [k i (Nat.lt_of_lt_of_le hi hs) (by rw [e]; exact hf), e]
theorem Fr.trans {own own' : Ghost} {S : Tag → Prop} {w w1 w2 : World} (h : Fr own S w w1) (hs : Same w own own') (k : Fr own' S w1 w2) : Fr own S w w2 :=
  ⟨k.os.trans h.os, k.tape.trans h.tape, k.output.trans h.output, Nat.le_trans h.size k.size, fun i hi hf hn => (k.block i (Nat.lt_of_lt_of_le hi h.size) (by rw [hs i hi hf]; exact hf) (by rw [hs i hi hf]; exact hn)).trans (h.block i hi hf hn)⟩
theorem Fr.mono {own : Ghost} {S S' : Tag → Prop} {w w' : World} (h : Fr own S w w') (hs : ∀ t, S t → S' t) : Fr own S' w w' := ⟨h.os, h.tape, h.output, h.size, fun k hk hf hn => h.block k hk hf fun e => hn (hs _ e)⟩
theorem Fr.of_below {own : Ghost} {S : Tag → Prop} {w w' : World} (h : Below w.heap.size w w') : Fr own S w w' := ⟨h.os, h.tape, h.output, h.size, fun k hk _ _ => h.block k hk⟩
theorem Fr.of_grown {own : Ghost} {S : Tag → Prop} {w w' : World} {row : Option Nat} (h : w.grownBy w' row) (hr : ∀ k, row = some k → own k = .free ∨ S (own k)) : Fr own S w w' :=
  ⟨h.os, h.tape, h.output, h.size, fun k hk hf hn => h.block k hk fun e => by rcases hr k e.symm with h | h; exact hf h; exact hn h⟩

/-- The book: m lists, and three longer ones for each. -/
structure Bk (w : World) (own : Ghost) (B0 : Nat) (vl vt : Value) (L T : List Sl) : Prop where
  len : T.length = 3 * L.length
  ol : Own clSl w B0 32 vl L
  ot : Own clSl w B0 32 vt T
  tl : TgV own vl .bL
  tt : TgV own vt .bT
  ml : Marked w L 1
  mt : Marked w T 3
  gl : ∀ s ∈ L, ∀ a, s.p = some a → own a.block = .bI ∧ a.block < w.heap.size
  gt : ∀ s ∈ T, ∀ a, s.p = some a → own a.block = .bI ∧ a.block < w.heap.size
theorem Marked.chg {w w' : World} {L : List Sl} {each : Nat} (h : Marked w L each) (hs : w.heap.size ≤ w'.heap.size) (hb : ∀ s ∈ L, ∀ a, s.p = some a → w'.heap[a.block]? = w.heap[a.block]?) : Marked w' L each := fun k s hk => by
  obtain ⟨h1, h2⟩ := h k s hk
  exact ⟨h1, h2.chg hs fun b off e => hb s (List.mem_of_getElem? hk) ⟨b, off, none⟩ e⟩
theorem Bk.chg {w w' : World} {own own' : Ghost} {B0 : Nat} {vl vt : Value} {L T : List Sl} (h : Bk w own B0 vl vt L T) {S : Tag → Prop} (f : Fr own S w w') (s : Same w own own') (h1 : ¬ S .bL) (h2 : ¬ S .bT) (h3 : ¬ S .bI) : Bk w' own' B0 vl vt L T where
  len := h.len
  ol := h.ol.chg fun k hk => f.block k (h.ol.lt k hk).2 (by rw [h.tl k hk]; simp) (by rw [h.tl k hk]; exact h1)
  ot := h.ot.chg fun k hk => f.block k (h.ot.lt k hk).2 (by rw [h.tt k hk]; simp) (by rw [h.tt k hk]; exact h2)
  tl := fun k hk => by rw [s k (h.ol.lt k hk).2 (by rw [h.tl k hk]; simp)]; exact h.tl k hk
  tt := fun k hk => by rw [s k (h.ot.lt k hk).2 (by rw [h.tt k hk]; simp)]; exact h.tt k hk
  ml := h.ml.chg f.size fun x hx a ha => by obtain ⟨e, hlt⟩ := h.gl x hx a ha; exact f.block _ hlt (by rw [e]; simp) (by rw [e]; exact h3)
  mt := h.mt.chg f.size fun x hx a ha => by obtain ⟨e, hlt⟩ := h.gt x hx a ha; exact f.block _ hlt (by rw [e]; simp) (by rw [e]; exact h3)
  gl := fun x hx a ha => by obtain ⟨e, hlt⟩ := h.gl x hx a ha; exact ⟨by rw [s _ hlt (by rw [e]; simp)]; exact e, Nat.lt_of_lt_of_le hlt f.size⟩
  gt := fun x hx a ha => by obtain ⟨e, hlt⟩ := h.gt x hx a ha; exact ⟨by rw [s _ hlt (by rw [e]; simp)]; exact e, Nat.lt_of_lt_of_le hlt f.size⟩


section
variable {ops : Array Oper} {rest : List Oper} {o : Oper} {a : Act} {w : World} {Q : Exit → Act → World → Prop}
theorem build1_sl (hgd : o.guard = none) (x : Operand) (ho : o.op = .buildSlice 43 1 #[(0, x)]) (s : Sl) (hx : a.eval x = s.val)
    (h : RowsAt clSl (w.alloc (.cells (flat clSl [s]).toArray 32)) (some ⟨w.heap.size, 0, none⟩) [s] → wpList Try.prog ops Q rest (a.put o.dst (.slice (some ⟨w.heap.size, 0, none⟩) 1 1)) (w.alloc (.cells (flat clSl [s]).toArray 32))) : wpList Try.prog ops Q (o :: rest) a w :=
  wpList_buildCl hgd _ _ 24 slSl 1 _ ho [s.val] [s] (by simp [hx]) (by rfl) rfl (by decide) (by decide) h
theorem build3_sl (hgd : o.guard = none) (x y z : Operand) (ho : o.op = .buildSlice 43 3 #[(0, x), (1, y), (2, z)]) (s1 s2 s3 : Sl) (hx : a.eval x = s1.val) (hy : a.eval y = s2.val) (hz : a.eval z = s3.val)
    (h : RowsAt clSl (w.alloc (.cells (flat clSl [s1, s2, s3]).toArray 32)) (some ⟨w.heap.size, 0, none⟩) [s1, s2, s3] → wpList Try.prog ops Q rest (a.put o.dst (.slice (some ⟨w.heap.size, 0, none⟩) 3 3)) (w.alloc (.cells (flat clSl [s1, s2, s3]).toArray 32))) : wpList Try.prog ops Q (o :: rest) a w :=
  wpList_buildCl hgd _ _ 24 slSl 3 _ ho [s1.val, s2.val, s3.val] [s1, s2, s3] (by simp [hx, hy, hz]) (by rfl) rfl (by decide) (by decide) h
theorem append_sl (hgd : o.guard = none) (s x : Operand) (ho : o.op = .call { callee := .builtin .append, args := #[s, x], argTypes := #[43, 43] }) (base : Nat) (v : Value) (l : List Sl) (hs : a.eval s = v) (hown : Own clSl w base 32 v l)
    (p : Option Addr) (m c : Nat) (ms : List Sl) (hx : a.eval x = .slice p m c) (hm : ms.length = m) (hg : RowsAt clSl w p ms) (hpos : 0 < m) (hl : l.length + m ≤ 1000000000) (hbase : base ≤ w.heap.size)
    (h : ∀ v' w', Own clSl w' base 32 v' (l ++ ms) → w.grownBy w' v.ownBlock → (v'.ownBlock = v.ownBlock ∨ v'.ownBlock = some w.heap.size) → (∃ g cap, v' = .slice (some ⟨g, 0, none⟩) (l ++ ms).length cap) → wpList Try.prog ops Q rest (a.put o.dst v') w') : wpList Try.prog ops Q (o :: rest) a w :=
  wpList_append_cl hgd s x _ _ 24 ho slSl base v l hs hown p m c ms hx hm hg hpos (by simp only [maxLen]; omega) (by omega) hbase fun v' w' h1 _ h2 h3 h4 => h v' w' h1 h2 (by rcases h3 with h3 | h3; exact .inl h3; exact .inr h3.1) h4
end
end Go.Proofs.Ytpglbakcjihohab

/-! 'keep': a list that came out is marked, and so are three longer ones made of it; all are kept in the book. -/
namespace Go.Proofs.Ytpglbakcjihohab
open Go.RowKit
set_option maxRecDepth 100000

theorem RowsAt.take {α : Type} {C : Cl α} {w : World} {p : Option Addr} {l : List α} (h : RowsAt C w p l) (k : Nat) : RowsAt C w p (l.take k) := by
  rcases h with rfl | ⟨b, off, rfl, hlt, hc⟩
  · exact .inl (by simp)
  · refine .inr ⟨b, off, rfl, hlt, fun i x hx => hc i x ?_⟩
    rw [List.getElem?_take] at hx
    split at hx
    · exact hx
    · cases hx
/-- Rows of marks stay rows of marks when marks are appended. -/
theorem marks_stay {w w' : World} {base : Nat} {v v' : Value} {n : Nat} {M : It} (ho : Own clIt w' base 80 v' (List.replicate n M)) (hg : w.grownBy w' v.ownBlock) (hat : v'.ownBlock = v.ownBlock ∨ v'.ownBlock = some w.heap.size ∧ w.grownBy w' none)
    {p : Option Addr} {a : Nat} (hp : RowsAt clIt w p (List.replicate a M)) (ha : a ≤ n) (hpp : ∀ b off, p = some ⟨b, off, none⟩ → some b ≠ v.ownBlock ∨ off = 0) : RowsAt clIt w' p (List.replicate a M) := by
  rcases hp with h | ⟨b, off, rfl, hlt, hc⟩
  · exact .inl h
  · have hp : RowsAt clIt w (some ⟨b, off, none⟩) (List.replicate a M) := .inr ⟨b, off, rfl, hlt, hc⟩
    rcases hat with hat | ⟨_, hg0⟩
    · by_cases hb : some b = v.ownBlock
      · obtain rfl : off = 0 := by
          rcases hpp b off rfl with h | h
          · exact absurd hb h
          · exact h
        have hf := ho.form
        obtain ⟨p', c, hv', _, _, hr⟩ := hf
        rcases ho.2 with ⟨hv2, _⟩ | ⟨g, cap, cur, hv2, _⟩
        · rw [hv2] at hat; rw [← hat] at hb; simp [Value.ownBlock] at hb
        · rw [hv2] at hat; rw [← hat] at hb
          obtain rfl : b = g := by simpa [Value.ownBlock] using hb
          rw [hv2] at hv'
          cases hv'
          have := hr.take a
          rwa [List.take_replicate, Nat.min_eq_left ha] at this
      · exact hp.chg hg.size fun b' off' e => by cases e; exact hg.block b hlt hb
    · exact hp.chg hg.size fun b' off' e => by cases e; exact hg0.block b hlt (by simp)

/-- What stands while the longer lists are made: the list itself, all marks; the mark in its own block; nothing old but the list's row has changed. -/
structure KS (w1 w2 wr : World) (B1 : Nat) (v : Value) (k : Nat) (X : It) (M : Array Value) : Prop where
  own : Own clIt wr B1 80 v (List.replicate k X)
  gr : w2.grownBy wr v.ownBlock
  gM : wr.heap[w1.heap.size]? = some (.cells M 80)
theorem KS.alloc {w1 w2 wr : World} {B1 : Nat} {v : Value} {k : Nat} {X : It} {M : Array Value} (h : KS w1 w2 wr B1 v k X M) (o : Obj) : KS w1 w2 (wr.alloc o) B1 v k X M :=
  ⟨h.own.below (below_alloc _ _), ⟨h.gr.os, h.gr.tape, h.gr.output, Nat.le_trans h.gr.size (by simp), fun j hj hne => (Below.heap_alloc wr o j (Nat.lt_of_lt_of_le hj h.gr.size)).trans (h.gr.block j hj hne)⟩, blk_old h.gM⟩
theorem app_step {w1 w2 wr w' : World} {B1 k j : Nat} {v v' : Value} {X : It} {M : Array Value} {o : Obj} {ms : List It} (ks : KS w1 w2 wr B1 v k X M) (hv1 : v.ownBlock ≠ some w1.heap.size)
    (ho : Own clIt w' B1 80 v' (List.replicate k X ++ ms)) (hms : ms = List.replicate j X) (hold : Own clIt w' B1 80 v (List.replicate k X)) (hg : (wr.alloc o).grownBy w' v.ownBlock)
    (hat : v'.ownBlock = v.ownBlock ∨ v'.ownBlock = some (wr.alloc o).heap.size ∧ (wr.alloc o).grownBy w' none) (hf : ∃ g cap, v' = .slice (some ⟨g, 0, none⟩) (List.replicate k X ++ ms).length cap) :
    KS w1 w2 w' B1 v k X M ∧ ∃ g cap, v' = .slice (some ⟨g, 0, none⟩) (k + j) cap ∧ RowsAt clIt w' (some ⟨g, 0, none⟩) (List.replicate (k + j) X) ∧ g < w'.heap.size ∧ (some g = v.ownBlock ∨ w2.heap.size ≤ g) ∧
      (∀ g' a, RowsAt clIt wr (some ⟨g', 0, none⟩) (List.replicate a X) → a ≤ k + j → RowsAt clIt w' (some ⟨g', 0, none⟩) (List.replicate a X)) ∧ wr.heap.size ≤ w'.heap.size := by
  subst hms
  rw [List.replicate_append_replicate] at ho
  have ka := ks.alloc o
  have hsz : wr.heap.size ≤ w'.heap.size := Nat.le_trans (by simp) hg.size
  refine ⟨⟨hold, ⟨hg.os.trans ka.gr.os, hg.tape.trans ka.gr.tape, hg.output.trans ka.gr.output, Nat.le_trans ka.gr.size hg.size, fun i hi hne => (hg.block i (Nat.lt_of_lt_of_le hi ka.gr.size) hne).trans (ka.gr.block i hi hne)⟩, ?_⟩, ?_⟩
  · rw [hg.block _ (lt_of_blk ka.gM) (fun e => hv1 e.symm)]; exact ka.gM
  · obtain ⟨g, cap, rfl⟩ := hf
    have hlen : (List.replicate k X ++ List.replicate j X).length = k + j := by simp
    rw [hlen] at ho hat ⊢
    obtain ⟨p', c', hv', _, _, hr⟩ := ho.form
    rw [List.length_replicate] at hv'
    cases hv'
    refine ⟨g, cap, rfl, hr, (ho.lt g rfl).2, ?_, fun g' a hra ha => marks_stay ho hg hat (hra.below (below_alloc _ _)) ha (fun b off e => .inr (by cases e; rfl)), hsz⟩
    rcases hat with hat | ⟨hat, _⟩
    · exact .inl hat
    · right
      have : g = (wr.alloc o).heap.size := by simpa [Value.ownBlock] using hat
      rw [this]
      exact Nat.le_trans ks.gr.size (by simp)

theorem kept_old {own : Ghost} {w w2 w7 : World} {v : Value} (h1 : Below w.heap.size w w2) (h2 : w2.grownBy w7 v.ownBlock) (hf : TgV own v .free) : ∀ k, k < w.heap.size → own k ≠ .free → w7.heap[k]? = w.heap[k]? := fun k hk hn => by
  rw [h2.block k (Nat.lt_of_lt_of_le hk h1.size) (fun e => hn (hf k e.symm))]; exact h1.block k hk
/-- What was somebody's is as it was. -/
def Old (own : Ghost) (w wx : World) : Prop := ∀ k, k < w.heap.size → own k ≠ .free → wx.heap[k]? = w.heap[k]?
theorem Old.own {own : Ghost} {w wx : World} {α : Type} {C : Cl α} {B : Nat} {e : TypeId} {v : Value} {l : List α} {t : Tag} (h : Old own w wx) (ho : Own C w B e v l) (ht : TgV own v t) (hf : t ≠ .free) : Own C wx B e v l :=
  ho.chg fun k hk => h k (ho.lt k hk).2 (by rw [ht k hk]; exact hf)

end Go.Proofs.Ytpglbakcjihohab

/-! 'keep': the walk. -/
namespace Go.Proofs.Ytpglbakcjihohab
open Go.RowKit
set_option maxRecDepth 100000

end Go.Proofs.Ytpglbakcjihohab
