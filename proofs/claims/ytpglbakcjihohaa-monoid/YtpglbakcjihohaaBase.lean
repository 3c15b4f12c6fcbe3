/-
  Plain lemmas on blocks of memory, on what a sketch is as cells, and on the numbers of P3 to P5 (no program is named here).
-/
import Derived.WalkKit
import Derived.WalkSpells
import Derived.WalkLawsBesides
import Derived.Deep.WholeRow
namespace Go.Proofs.Ytpglbakcjihohaa
open Go.RowKit

theorem lt_of_blk {w : World} {i : Nat} {b : Obj} (h : w.heap[i]? = some b) : i < w.heap.size := by
  obtain ⟨h, _⟩ := Array.getElem?_eq_some_iff.1 h; exact h
theorem keep {w w' : World} {i : Nat} {b : Obj} (hb : Below w.heap.size w w') (h : w.heap[i]? = some b) : w'.heap[i]? = some b := by
  rw [hb.block i (lt_of_blk h)]; exact h
theorem bnext {w w1 w2 : World} (h : Below w.heap.size w w1) (k : Below w1.heap.size w1 w2) : Below w.heap.size w w2 := h.trans (k.mono h.size)
theorem blk_old {w : World} {o : Obj} {i : Nat} {b : Obj} (h : w.heap[i]? = some b) : (w.alloc o).heap[i]? = some b := by
  rw [Below.heap_alloc w o i (lt_of_blk h)]; exact h
theorem below_alloc (w : World) (o : Obj) : Below w.heap.size w (w.alloc o) := (Below.refl _ _).alloc (Nat.le_refl _) o
theorem below_alloc2 (w : World) (o o' : Obj) : Below w.heap.size w ((w.alloc o).alloc o') := bnext (below_alloc w o) (below_alloc _ o')
theorem below_drewN {B : Nat} {w w' : World} (h : Below B w w') (n : Nat) : Below B w (w'.drewN n) := ⟨h.os, h.tape, h.output, h.size, h.block⟩
theorem blk2 (w : World) (o1 o2 : Obj) : ((w.alloc o1).alloc o2).heap[w.heap.size + 1]? = some o2 := by have := heap_alloc_new (w.alloc o1) o2; simpa using this
theorem blk3 (w : World) (o1 o2 o3 : Obj) : (((w.alloc o1).alloc o2).alloc o3).heap[w.heap.size + 1 + 1]? = some o3 := by have := heap_alloc_new ((w.alloc o1).alloc o2) o3; simpa using this
theorem cell_set {w : World} {b o b' o' : Nat} {v x : Value} (hne : b' ≠ b) (h : w.cell? ⟨b', o', none⟩ = some x) : (w.setCell ⟨b, o, none⟩ v).cell? ⟨b', o', none⟩ = some x := by
  rw [World.cell?_of_block (w := w) (Below.heap_setCell w ⟨b, o, none⟩ v b' hne)]; exact h
theorem cell_set_drew {w : World} {b o b' o' : Nat} {v x : Value} (hne : b' ≠ b) (h : w.cell? ⟨b', o', none⟩ = some x) : (w.setCell ⟨b, o, none⟩ v).drew.cell? ⟨b', o', none⟩ = some x := cell_set hne h
structure Sk where
  c : Int
  s : Int
  l : Int
  g : Int
  r : Nat → Int
  h : Nat → Int
def Sk.at (s : Sk) (i : Nat) : Value :=
  if i = 0 then .int .u16 s.c else if i = 1 then .int .u32 s.s else if i = 2 then .int .i32 s.l else if i = 3 then .int .i32 s.g
  else if i < 20 then .int .u8 (s.r (i - 4)) else .int .u8 (s.h (i - 20))
def Sk.cells (s : Sk) : Array Value := Array.ofFn (n := 28) fun i => s.at i
theorem Sk.size_cells (s : Sk) : s.cells.size = 28 := by simp [Sk.cells]
theorem Sk.get (s : Sk) (i : Nat) (h : i < 28) : s.cells[i]? = some (s.at i) := by simp [Sk.cells, h]
def IsSk (A : Array Value) (s : Sk) : Prop := A = s.cells
theorem IsSk.size {A : Array Value} {s : Sk} (h : IsSk A s) : A.size = 28 := by rw [show A = s.cells from h]; exact s.size_cells
theorem IsSk.reg {A : Array Value} {s : Sk} (h : IsSk A s) (k : Nat) (hk : k < 16) : A[4 + k]? = some (.int .u8 (s.r k)) := by
  rw [show A = s.cells from h, s.get _ (by omega)]; simp [Sk.at, show 4 + k ≠ 1 by omega, show 4 + k ≠ 2 by omega, show 4 + k ≠ 3 by omega, show 4 + k < 20 by omega]
/-- Every field of a sketch fits its kind. -/
structure Sk.Ok (s : Sk) : Prop where
  c0 : 0 ≤ s.c
  c1 : s.c ≤ 65535
  s0 : 0 ≤ s.s
  s1 : s.s ≤ 4294967295
  l0 : -2147483648 ≤ s.l
  l1 : s.l ≤ 2147483647
  g0 : -2147483648 ≤ s.g
  g1 : s.g ≤ 2147483647
  r0 : ∀ k, 0 ≤ s.r k
  r1 : ∀ k, s.r k ≤ 255
  h0 : ∀ k, 0 ≤ s.h k
  h1 : ∀ k, s.h k ≤ 255
theorem IsSk.hist {A : Array Value} {s : Sk} (h : IsSk A s) (k : Nat) (hk : k < 8) : A[20 + k]? = some (.int .u8 (s.h k)) := by
  rw [show A = s.cells from h, s.get _ (by omega)]; simp [Sk.at, show 20 + k ≠ 1 by omega, show 20 + k ≠ 2 by omega, show 20 + k ≠ 3 by omega, show ¬ 20 + k < 20 by omega]
def wgt (r : Int) : Int := if 32 < r then 1 else 2 ^ (32 - r).toNat
theorem wgt_bd (r : Int) (h0 : 0 ≤ r) : 1 ≤ wgt r ∧ wgt r ≤ 4294967296 := by
  unfold wgt; split
  · omega
  · have h : (32 - r).toNat ≤ 32 := by omega
    have := Nat.pow_le_pow_right (n := 2) (by omega) h
    have h1 : 1 ≤ 2 ^ (32 - r).toNat := Nat.one_le_two_pow
    have e : ((2 ^ (32 - r).toNat : Nat) : Int) = (2:Int) ^ (32 - r).toNat := by simp
    rw [← e]; omega
theorem wgt_step (q : Int) (h0 : 0 ≤ q) (h : q < 32) : wgt q = 2 * wgt (q + 1) := by
  unfold wgt
  rw [if_neg (by omega), if_neg (by omega)]
  have e : (32 - q).toNat = (32 - (q + 1)).toNat + 1 := by omega
  rw [e, Int.pow_succ]; omega
theorem wgt_one (q : Int) (h : 32 ≤ q) : wgt q = 1 := by
  unfold wgt
  by_cases e : q = 32
  · subst e; decide
  · rw [if_pos (by omega)]
theorem wgt_part (p q W : Int) (hp : 1 ≤ p) (h0 : 0 ≤ q) (h : p * wgt q = W) : p ≤ W := by
  have h1 := (wgt_bd q h0).1
  have := Int.mul_le_mul_of_nonneg_left h1 (show 0 ≤ p by omega)
  omega
theorem wgt_next (p q W : Int) (h0 : 0 ≤ q) (h : p * wgt q = W) (hq : q < 32) : (2 * p) * wgt (q + 1) = W := by
  rw [wgt_step q h0 hq] at h
  rw [← h, Int.mul_comm 2 p, Int.mul_assoc]
theorem quo_bd (d : Int) (h : 1 ≤ d) : 0 ≤ 738734374912 / d ∧ 738734374912 / d ≤ 738734374912 :=
  ⟨Int.ediv_nonneg (by omega) (by omega), Int.ediv_le_self _ (by omega)⟩
def wsum (s : Sk) : Nat → Int | 0 => 0 | k + 1 => wsum s k + wgt (s.r k)
theorem wsum_bd (s : Sk) (hr : ∀ k, 0 ≤ s.r k) (k : Nat) : (k : Int) ≤ wsum s k ∧ wsum s k ≤ 4294967296 * (k : Int) := by
  induction k with
  | zero => simp [wsum]
  | succ k ih => have := wgt_bd (s.r k) (hr k); simp only [wsum]; omega
def hsum (s : Sk) : Nat → Int | 0 => 0 | k + 1 => hsum s k + s.h k
theorem hsum_succ (s : Sk) (k : Nat) : hsum s (k + 1) = hsum s k + s.h k := rfl
theorem hsum_bd (s : Sk) (h0 : ∀ k, 0 ≤ s.h k) (h1 : ∀ k, s.h k ≤ 255) (k : Nat) : 0 ≤ hsum s k ∧ hsum s k ≤ 255 * (k : Int) := by
  induction k with
  | zero => simp [hsum]
  | succ k ih => have := h0 k; have := h1 k; simp only [hsum]; omega
def clamp (p : Int) : Int := if p < 0 then 0 else if 1000 < p then 1000 else p
theorem clamp_bd (p : Int) : 0 ≤ clamp p ∧ clamp p ≤ 1000 := by unfold clamp; omega
def rkGo (s : Sk) (need : Int) (b : Nat) : Nat → Nat
  | 0 => 7
  | n + 1 => if need ≤ 1000 * hsum s (b + 1) then b else rkGo s need (b + 1) n
def rank (s : Sk) (p : Int) : Nat := rkGo s (clamp p * hsum s 8) 0 7
theorem need_bd (a b : Int) (h0 : 0 ≤ a) (h1 : a ≤ 1000) (h2 : 0 ≤ b) (h3 : b ≤ 2040) : 0 ≤ a * b ∧ a * b ≤ 2040000 := by
  have := Int.mul_le_mul h1 h3 h2 (by omega)
  have := Int.mul_nonneg h0 h2
  omega
theorem rk_hit (s : Sk) (need : Int) (k : Nat) (hk : k < 7) (h : need ≤ 1000 * hsum s (k + 1)) : rkGo s need k (7 - k) = k := by
  rw [show 7 - k = (6 - k) + 1 by omega, rkGo, if_pos h]
theorem rk_miss (s : Sk) (need : Int) (k : Nat) (hk : k < 7) (h : ¬ need ≤ 1000 * hsum s (k + 1)) : rkGo s need k (7 - k) = rkGo s need (k + 1) (7 - (k + 1)) := by
  rw [show 7 - k = (6 - k) + 1 by omega, rkGo, if_neg h, show 6 - k = 7 - (k + 1) by omega]

/-! ### Merging -/
def mrg (a b : Sk) : Sk := ⟨min (a.c + b.c) 65535, (a.s + b.s) % 4294967296, min a.l b.l, max a.g b.g, fun k => max (a.r k) (b.r k), fun k => min (a.h k + b.h k) 255⟩
theorem mrg_ok {a b : Sk} (x : a.Ok) (y : b.Ok) : (mrg a b).Ok :=
  ⟨by have := x.c0; have := y.c0; simp only [mrg]; omega, by simp only [mrg]; omega, by simp only [mrg]; omega, by simp only [mrg]; omega,
   by have := x.l0; have := y.l0; simp only [mrg]; omega, by have := x.l1; have := y.l1; simp only [mrg]; omega, by have := x.g0; have := y.g0; simp only [mrg]; omega, by have := x.g1; have := y.g1; simp only [mrg]; omega,
   fun k => by have := x.r0 k; have := y.r0 k; simp only [mrg]; omega, fun k => by have := x.r1 k; have := y.r1 k; simp only [mrg]; omega,
   fun k => by have := x.h0 k; have := y.h0 k; simp only [mrg]; omega, fun k => by simp only [mrg]; omega⟩
theorem IsSk.congr {A : Array Value} {s t : Sk} (h : IsSk A s) (hc : s.c = t.c) (hs : s.s = t.s) (hl : s.l = t.l) (hg : s.g = t.g) (hr : ∀ k, k < 16 → s.r k = t.r k) (hh : ∀ k, k < 8 → s.h k = t.h k) : IsSk A t := by
  rw [show A = s.cells from h]
  show s.cells = t.cells
  apply Array.ext_getElem?
  intro i
  by_cases hi : i < 28
  · rw [s.get i hi, t.get i hi]
    unfold Sk.at
    rw [hc, hs, hl, hg]
    by_cases h4 : i < 4
    · have : i = 0 ∨ i = 1 ∨ i = 2 ∨ i = 3 := by omega
      rcases this with rfl | rfl | rfl | rfl <;> rfl
    · by_cases h20 : i < 20
      · rw [hr (i - 4) (by omega)]; simp [show i ≠ 0 by omega, show i ≠ 1 by omega, show i ≠ 2 by omega, show i ≠ 3 by omega, h20]
      · rw [hh (i - 20) (by omega)]; simp [show i ≠ 0 by omega, show i ≠ 1 by omega, show i ≠ 2 by omega, show i ≠ 3 by omega, h20]
  · rw [Array.getElem?_eq_none (by rw [s.size_cells]; omega), Array.getElem?_eq_none (by rw [t.size_cells]; omega)]
theorem IsSk.set {A : Array Value} {s t : Sk} (h : IsSk A s) (i : Nat) (v : Value) (hi : i < 28) (hv : t.at i = v) (ho : ∀ j, j < 28 → j ≠ i → t.at j = s.at j) : IsSk (A.setIfInBounds i v) t := by
  rw [show A = s.cells from h]
  show s.cells.setIfInBounds i v = t.cells
  apply Array.ext_getElem?
  intro j
  rw [Array.getElem?_setIfInBounds]
  by_cases hj : j < 28
  · rw [t.get j hj]
    by_cases e : i = j
    · subst e; rw [if_pos rfl, if_pos (by rw [s.size_cells]; omega), hv]
    · rw [if_neg e, s.get j hj, ho j hj (fun h => e h.symm)]
  · rw [Array.getElem?_eq_none (xs := t.cells) (by rw [t.size_cells]; omega)]
    split
    · rw [if_neg (by rw [s.size_cells]; omega)]
    · rw [Array.getElem?_eq_none (by rw [s.size_cells]; omega)]
theorem Sk.at_reg (s : Sk) (k : Nat) (hk : k < 16) : s.at (4 + k) = .int .u8 (s.r k) := by
  simp [Sk.at, show 4 + k ≠ 1 by omega, show 4 + k ≠ 2 by omega, show 4 + k ≠ 3 by omega, show 4 + k < 20 by omega]
theorem Sk.at_hist (s : Sk) (k : Nat) : s.at (20 + k) = .int .u8 (s.h k) := by
  simp [Sk.at, show 20 + k ≠ 1 by omega, show 20 + k ≠ 2 by omega, show 20 + k ≠ 3 by omega, show ¬ 20 + k < 20 by omega]
/-- One register, or one bucket, written. -/
theorem IsSk.setReg {A : Array Value} {s : Sk} (h : IsSk A s) (k : Nat) (hk : k < 16) (v : Int) : IsSk (A.setIfInBounds (4 + k) (.int .u8 v)) { s with r := fun j => if j = k then v else s.r j } :=
  h.set (4 + k) _ (by omega) (by rw [Sk.at_reg _ k hk]; simp) fun j hj hne => by
    unfold Sk.at
    by_cases h20 : j < 20
    · by_cases h4 : j < 4
      · have : j = 0 ∨ j = 1 ∨ j = 2 ∨ j = 3 := by omega
        rcases this with rfl | rfl | rfl | rfl <;> rfl
      · simp [show j ≠ 0 by omega, show j ≠ 1 by omega, show j ≠ 2 by omega, show j ≠ 3 by omega, h20, show j - 4 ≠ k by omega]
    · simp [h20]
theorem IsSk.setHist {A : Array Value} {s : Sk} (h : IsSk A s) (k : Nat) (hk : k < 8) (v : Int) : IsSk (A.setIfInBounds (20 + k) (.int .u8 v)) { s with h := fun j => if j = k then v else s.h j } :=
  h.set (20 + k) _ (by omega) (by rw [Sk.at_hist]; simp) fun j hj hne => by
    unfold Sk.at
    by_cases h20 : j < 20
    · simp [h20]
    · simp [show j ≠ 0 by omega, show j ≠ 1 by omega, show j ≠ 2 by omega, show j ≠ 3 by omega, h20, show j - 20 ≠ k by omega]
theorem IsSk.setC {A : Array Value} {s : Sk} (h : IsSk A s) (v : Int) : IsSk (A.setIfInBounds 0 (.int .u16 v)) { s with c := v } :=
  h.set 0 _ (by omega) rfl fun j hj hne => by unfold Sk.at; simp [hne]
theorem IsSk.setS {A : Array Value} {s : Sk} (h : IsSk A s) (v : Int) : IsSk (A.setIfInBounds 1 (.int .u32 v)) { s with s := v } :=
  h.set 1 _ (by omega) rfl fun j hj hne => by unfold Sk.at; simp [hne]
theorem IsSk.setL {A : Array Value} {s : Sk} (h : IsSk A s) (v : Int) : IsSk (A.setIfInBounds 2 (.int .i32 v)) { s with l := v } :=
  h.set 2 _ (by omega) rfl fun j hj hne => by unfold Sk.at; simp [hne]
theorem IsSk.setG {A : Array Value} {s : Sk} (h : IsSk A s) (v : Int) : IsSk (A.setIfInBounds 3 (.int .i32 v)) { s with g := v } :=
  h.set 3 _ (by omega) rfl fun j hj hne => by unfold Sk.at; simp [hne]
theorem IsSk.get0 {A : Array Value} {s : Sk} (h : IsSk A s) : A[0]? = some (.int .u16 s.c) := by rw [show A = s.cells from h, s.get _ (by omega)]; rfl
theorem IsSk.get1 {A : Array Value} {s : Sk} (h : IsSk A s) : A[1]? = some (.int .u32 s.s) := by rw [show A = s.cells from h, s.get _ (by omega)]; rfl
theorem IsSk.get2 {A : Array Value} {s : Sk} (h : IsSk A s) : A[2]? = some (.int .i32 s.l) := by rw [show A = s.cells from h, s.get _ (by omega)]; rfl
theorem IsSk.get3 {A : Array Value} {s : Sk} (h : IsSk A s) : A[3]? = some (.int .i32 s.g) := by rw [show A = s.cells from h, s.get _ (by omega)]; rfl
theorem IsSk.one {A : Array Value} {s : Sk} (h : IsSk A s) : A.all (·.oneCell') = true := by
  rw [Array.all_eq_true]
  intro i hi
  have hi' : i < 28 := by rw [← h.size]; exact hi
  have e : A[i]? = some (s.at i) := by rw [show A = s.cells from h]; exact s.get i hi'
  rw [Array.getElem?_eq_getElem hi] at e
  rw [Option.some.inj e]
  unfold Sk.at
  repeat' split
  all_goals rfl

/-! ### Whole variables: laws at the list of a region's operations, the cells a variable -/
section
variable {P : Program} {ops : Array Oper} {rest : List Oper} {o : Oper} {a : Act} {w : World} {Q : Exit → Act → World → Prop}
theorem wpList_alloc_z (hgd : o.guard = none) (t : TypeId) (ho : o.op = .alloc t) (z : Array Value) (hz : (P.info? t).bind (·.zero) = some (.agg z))
    (h : wpList P ops Q rest (a.put o.dst (.pointer (some ⟨w.heap.size, 0, none⟩))) (w.alloc (.cells z t))) : wpList P ops Q (o :: rest) a w :=
  wpList_plain hgd fun K hK => by
    have hz' : (zeroValue t).run P w = .ok (.agg z) w := by
      cases hq : P.info? t with
      | none => simp [hq] at hz
      | some i => simp [hq] at hz; simp [zeroValue, typeInfo, hq, hz]
    unfold Oper.wp execOp
    simp only [ho, Instr.alloc, Sem.run_bind, hz', Result.andThen_ok, newVar, newRow, newObj, Sem.run_pure]
    exact hK _ _ h
theorem wpList_build_z (hgd : o.guard = none) (t : TypeId) (parts : Array (Nat × Operand)) (ho : o.op = .build t parts) (z : Array Value)
    (hz : P.built t (parts.map fun (i, x) => (i, a.eval x)).toList = some z)
    (h : wpList P ops Q rest (a.put o.dst (.agg z)) w) : wpList P ops Q (o :: rest) a w :=
  wpList_build hgd t parts ho (by rw [hz]; rfl) (by rw [hz]; exact h)
/-- A whole variable into the block that was made last. -/
theorem wpList_store_new {o0 : World} {c : Array Value} {t : TypeId} {n : Nat} (hgd : o.guard = none) (x y : Operand) (ho : o.op = .store t x y) (cells : Array Value)
    (hx : a.eval x = .pointer (some ⟨n, 0, none⟩)) (hy : a.eval y = .agg cells) (hn : n = o0.heap.size)
    (hi : (P.info? t).map (·.size) = some cells.size) (hc : c.size = cells.size) (h1 : cells.all (·.oneCell') = true)
    (h : wpList P ops Q rest (a.put o.dst undef) (o0.alloc (.cells cells t))) : wpList P ops Q (o :: rest) a (o0.alloc (.cells c t)) := by
  subst hn
  refine wpList_store_row hgd t x y ho _ cells hx hy t c (heap_alloc_new _ _) hi hc h1 ?_
  rw [World.setRow_alloc_new]
  exact h
end

/-- A sketch with noughts in its registers and buckets, its cells written out. -/
theorem lit_sk (c s l g : Int) : IsSk #[.int .u16 c, .int .u32 s, .int .i32 l, .int .i32 g, .int .u8 0, .int .u8 0, .int .u8 0, .int .u8 0, .int .u8 0, .int .u8 0, .int .u8 0, .int .u8 0, .int .u8 0, .int .u8 0, .int .u8 0, .int .u8 0, .int .u8 0, .int .u8 0, .int .u8 0, .int .u8 0, .int .u8 0, .int .u8 0, .int .u8 0, .int .u8 0, .int .u8 0, .int .u8 0, .int .u8 0, .int .u8 0] ⟨c, s, l, g, fun _ => 0, fun _ => 0⟩ := by
  show _ = Sk.cells _
  simp [Sk.cells, Sk.at, Array.ofFn_succ]

end Go.Proofs.Ytpglbakcjihohaa
