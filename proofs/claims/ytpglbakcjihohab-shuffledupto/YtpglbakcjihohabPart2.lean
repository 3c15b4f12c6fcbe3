/-
  Own texts, laid together: The tree: what is a tree, a node, a leaf, what is under what; the document's isNode, isLeaf, under, wrong, isRange, ahead, newer, IsTree, IsWidth, for every tree and number. The document's store as plain things: events, leaves, nodes; what a leaf knows; their cells. Laws for items inside a region whose order is open; single fields of an item written over. 'known': a leaf's items, for every leaf's state. The document's store in memory: its blocks, whose they are, and what stands in them. 'living', 'stored', 'Items', 'Watermark' of the document's store. An answer of P12 as numbers and as cells; laws of the walk for it; what is asked, as plain functions. The document's Ask, for every node and windows. One node of the document's store changed: what stays. The document's Ingest, for every node, time, key and value. The document's Advance, for every node and time. 'again', and the document's Sync and Crash. The document's Sync and Crash, for every node. The document's Crash, for every node. The document's IsTree, IsWidth and Begin. The document's Begin: a store with no items, for every tree and width. 'ahead' and 'newer', for every two items. 'joined': the items with one more, for every list and item. Plain facts of sorted items: how many there can be, what is joined, laid in, found; what a leaf knows behind an event or an advance. Whole things made, stored, appended in regions whose order is open. The program's ledger: where an item stands, which it is, whether it is Final; which items of some windows there are. The program's ledger: an item laid in its place; the watermark; the items of some windows.
-/
import Derived.Test.YtpglbakcjihohabRows
import Derived.OrdersHeld
import Derived.Deep.DeepCutAuto
import Derived.Test.YtpglbakcjihohabPart1
set_option linter.unusedSimpArgs false
set_option linter.unusedVariables false
set_option linter.deprecated false
/-! The tree: what is a tree, a node, a leaf, what is under what; the document's isNode, isLeaf, under, wrong, isRange, ahead, newer, IsTree, IsWidth, for every tree and number. -/
namespace Go.Proofs.Ytpglbakcjihohab
open Go.RowKit
set_option maxRecDepth 100000

def isNd (t : List Int) (n : Int) : Bool := decide (0 ≤ n ∧ n < t.length)
def isLf (t : List Int) (n : Int) : Bool := decide (n ∉ t)
/-- The error of a call that wants a leaf. -/
def wrg (t : List Int) (n : Int) : Int := if isNd t n = true then (if isLf t n = true then 0 else 3) else 2
def und (t : List Int) (top : Int) : Nat → Int → Bool
  | 0, _ => false
  | f + 1, n => if n < 0 then false else if n = top then true else und t top f (t.getD n.toNat (-1))
def under (t : List Int) (n top : Int) : Bool := und t top (n.toNat + 1) n
/-- What a tree is. -/
structure Tree (t : List Int) : Prop where
  pos : 1 ≤ t.length
  le : t.length ≤ 8
  root : t.getD 0 0 = -1
  up : ∀ i, 1 ≤ i → i < t.length → 0 ≤ t.getD i 0 ∧ t.getD i 0 < i
theorem Tree.lt {t : List Int} (h : Tree t) (i : Nat) (hi : i < t.length) : -1 ≤ t.getD i (-1) ∧ t.getD i (-1) < i := by
  have e : t.getD i (-1) = t.getD i 0 := by simp [List.getD, List.getElem?_eq_getElem hi]
  rw [e]
  rcases Nat.eq_zero_or_pos i with rfl | hp
  · rw [h.root]; omega
  · have := h.up i hp hi; omega
theorem und_fuel (t : List Int) (top : Int) (h : Tree t) (f : Nat) : ∀ (n : Int), n < t.length → n.toNat + 1 ≤ f → und t top f n = und t top (n.toNat + 1) n := by
  induction f using Nat.strongRecOn with
  | ind f ih =>
    intro n hn hf
    obtain ⟨f, rfl⟩ : ∃ g, f = g + 1 := ⟨f - 1, by omega⟩
    by_cases h0 : n < 0
    · simp [und, h0]
    · by_cases e : n = top
      · simp only [und, if_neg h0, if_pos e]
      · have hl := h.lt n.toNat (by omega)
        simp only [und, if_neg h0, if_neg e]
        by_cases hz : t.getD n.toNat (-1) < 0
        · cases f with
          | zero => rw [show n.toNat = 0 by omega]
          | succ f =>
            cases hq : n.toNat with
            | zero => rw [hq] at hz; simp only [und, if_pos hz]
            | succ q => rw [hq] at hz; simp only [und, if_pos hz]
        · rw [ih f (by omega) _ (by omega) (by omega), ih n.toNat (by omega) _ (by omega) (by omega)]
theorem under_step {t : List Int} (h : Tree t) (n top : Int) (h0 : 0 ≤ n) (hn : n < t.length) (e : n ≠ top) : under t n top = under t (t.getD n.toNat (-1)) top := by
  have hl := h.lt n.toNat (by omega)
  unfold under
  rw [und, if_neg (by omega), if_neg e]
  by_cases hz : t.getD n.toNat (-1) < 0
  · rw [und, if_pos hz]
    cases hq : n.toNat with
    | zero => rfl
    | succ q => rw [hq] at hz; rw [und, if_pos hz]
  · rw [und_fuel t top h n.toNat _ (by omega) (by omega)]
theorem under_neg (t : List Int) (n top : Int) (h : n < 0) : under t n top = false := by simp [under, und, h]
theorem under_self (t : List Int) (n : Int) (h : 0 ≤ n) : under t n n = true := by simp [under, und, show ¬ n < 0 by omega]
theorem mem_take_succ (t : List Int) (k : Nat) (hk : k < t.length) (n : Int) : n ∉ t.take (k + 1) ↔ n ∉ t.take k ∧ t[k] ≠ n := by
  rw [List.take_add_one, List.getElem?_eq_getElem hk]
  simp only [Option.toList_some, List.mem_append, List.mem_singleton, not_or]
  exact ⟨fun ⟨a, b⟩ => ⟨a, fun e => b e.symm⟩, fun ⟨a, b⟩ => ⟨a, fun e => b e.symm⟩⟩

/-- The tree lies in the World's block. -/
structure TreeAt (w : World) (bw : Nat) (pt : Option Addr) (ct : Nat) (t : List Int) : Prop where
  cell : w.cell? ⟨bw, 0, none⟩ = some (.slice pt t.length ct)
  rows : RowsAt clInt w pt t
theorem TreeAt.below {w w' : World} {bw : Nat} {pt : Option Addr} {ct : Nat} {t : List Int} (h : TreeAt w bw pt ct t) (hb : Below w.heap.size w w') : TreeAt w' bw pt ct t := ⟨cell_keep hb h.cell, h.rows.below hb⟩

def isRg (low high : Int) : Bool := decide (0 ≤ low ∧ high < 20 ∧ low ≤ high)
end Go.Proofs.Ytpglbakcjihohab

/-! The document's store as plain things: events, leaves, nodes; what a leaf knows; their cells. -/
namespace Go.Proofs.Ytpglbakcjihohab
open Go.RowKit
set_option maxRecDepth 100000

structure Ev3 where
  win : Int
  key : ByteArray
  v : Int
structure Ev3.Ok (e : Ev3) : Prop where
  win0 : 0 ≤ e.win
  win1 : e.win < 20
  key : e.key.size ≤ maxLen
  v0 : -2147483648 ≤ e.v
  v1 : e.v ≤ 2147483647
def Ev3.cells (e : Ev3) : List Value := [.int .i64 e.win, .string e.key, .int .i32 e.v]
abbrev clEv : Cl Ev3 := ⟨Ev3.cells, 3, by decide, fun _ => rfl, fun _ v hv => by
  simp only [Ev3.cells, List.mem_cons, List.not_mem_nil, or_false] at hv
  rcases hv with rfl | rfl | rfl <;> rfl⟩
theorem Ev3.clsize : clEv.size = 3 := rfl
def EvOk (l : List Ev3) : Prop := ∀ (i : Nat) (e : Ev3), l[i]? = some e → e.Ok

/-- The events of a window; their sketch; the item; what is known. -/
def evK (l : List Ev3) (k : Int) : List Ev3 := l.filter fun e => e.win == k
def skOf (l : List Ev3) : Sk := l.foldl (fun s e => mrg s (one e.key.data.toList e.v)) Sk.empty
def itOf (n : Int) (l : List Ev3) (cl : Nat → Bool) (k : Nat) : It := ⟨n, k, ((evK l k).length : Int), cl k, skOf (evK l k)⟩
def has (l : List Ev3) (cl : Nat → Bool) (k : Nat) : Bool := decide (0 < (evK l k).length) || cl k
def knownTo (n : Int) (l : List Ev3) (cl : Nat → Bool) (m : Nat) : List It := ((List.range m).filter (has l cl)).map (itOf n l cl)
def known (n : Int) (l : List Ev3) (cl : Nat → Bool) : List It := knownTo n l cl 20
theorem knownTo_yes (n : Int) (l : List Ev3) (cl : Nat → Bool) (m : Nat) (h : has l cl m = true) : knownTo n l cl (m + 1) = knownTo n l cl m ++ [itOf n l cl m] := by
  simp [knownTo, List.range_succ, List.filter_append, h]
theorem knownTo_no (n : Int) (l : List Ev3) (cl : Nat → Bool) (m : Nat) (h : has l cl m = false) : knownTo n l cl (m + 1) = knownTo n l cl m := by
  simp [knownTo, List.range_succ, List.filter_append, h]
theorem knownTo_len (n : Int) (l : List Ev3) (cl : Nat → Bool) (m : Nat) : (knownTo n l cl m).length ≤ m := by
  have := List.length_filter_le (has l cl) (List.range m)
  simpa [knownTo] using this
theorem evK_take_yes (l : List Ev3) (k : Int) (i : Nat) (e : Ev3) (h : l[i]? = some e) (hw : e.win = k) : evK (l.take (i + 1)) k = evK (l.take i) k ++ [e] := by
  unfold evK; rw [List.take_add_one, h]; simp [List.filter_append, hw]
theorem evK_take_no (l : List Ev3) (k : Int) (i : Nat) (e : Ev3) (h : l[i]? = some e) (hw : e.win ≠ k) : evK (l.take (i + 1)) k = evK (l.take i) k := by
  unfold evK; rw [List.take_add_one, h]; simp [List.filter_append, hw]
theorem skOf_append (l : List Ev3) (e : Ev3) : skOf (l ++ [e]) = mrg (skOf l) (one e.key.data.toList e.v) := by simp [skOf]
theorem skOf_ok : ∀ (l : List Ev3), (∀ e ∈ l, e.Ok) → (skOf l).Ok := by
  intro l
  suffices h : ∀ (l : List Ev3) (s : Sk), s.Ok → (∀ e ∈ l, e.Ok) → (l.foldl (fun s e => mrg s (one e.key.data.toList e.v)) s).Ok from h l _ Sk.empty_ok
  intro l
  induction l with
  | nil => intro s hs _; exact hs
  | cons e l ih =>
    intro s hs h
    have he := h e (by simp)
    exact ih _ (mrg_ok hs (one_ok _ _ he.v0 he.v1)) fun x hx => h x (by simp [hx])
theorem evK_ok {l : List Ev3} (h : EvOk l) (k : Int) (i : Nat) : ∀ e ∈ evK (l.take i) k, e.Ok := fun e he => by
  have h1 := (List.mem_filter.1 he).1
  obtain ⟨j, hj⟩ := List.getElem?_of_mem h1
  rw [List.getElem?_take] at hj
  split at hj
  · exact h j e hj
  · cases hj
theorem evK_len (l : List Ev3) (k : Int) : (evK l k).length ≤ l.length := List.length_filter_le _ _

/-- A leaf's state in memory. -/
structure LfC where
  ve : Sl
  cl : Nat → Bool
  mark : Int
def LfC.cells (c : LfC) : List Value := c.ve.val :: ((List.range 20).map fun k => .bool (c.cl k)) ++ [.int .i64 c.mark]
theorem LfC.len (c : LfC) : c.cells.length = 22 := by simp [LfC.cells]
theorem LfC.one (c : LfC) : ∀ v ∈ c.cells, v.oneCell' = true := fun v hv => by
  simp only [LfC.cells, List.cons_append, List.mem_cons, List.mem_append, List.mem_map, List.not_mem_nil, or_false] at hv
  rcases hv with rfl | ⟨k, _, rfl⟩ | rfl <;> rfl
abbrev clLf : Cl LfC := ⟨LfC.cells, 22, by decide, LfC.len, LfC.one⟩
def IsLfC (A : Array Value) (c : LfC) : Prop := A.toList = c.cells
theorem IsLfC.size {A : Array Value} {c : LfC} (h : IsLfC A c) : A.size = 22 := by have := congrArg List.length (show A.toList = c.cells from h); rw [LfC.len] at this; simpa using this
theorem LfC.get0 (c : LfC) : c.cells[0]? = some (.slice c.ve.p c.ve.n c.ve.c) := rfl
theorem LfC.getc (c : LfC) (k : Nat) (hk : k < 20) : c.cells[1 + k]? = some (.bool (c.cl k)) := by
  rw [Nat.add_comm]; simp only [LfC.cells, List.cons_append, List.getElem?_cons_succ]
  rw [List.getElem?_append_left (by simpa using hk)]; simp [hk]
theorem LfC.getm (c : LfC) : c.cells[21]? = some (.int .i64 c.mark) := by
  show (c.ve.val :: _ ++ _)[20 + 1]? = _
  rw [List.cons_append, List.getElem?_cons_succ, List.getElem?_append_right (by simp)]; simp
theorem IsLfC.get {A : Array Value} {c : LfC} (h : IsLfC A c) (i : Nat) : A[i]? = c.cells[i]? := by rw [← Array.getElem?_toList, show A.toList = c.cells from h]
end Go.Proofs.Ytpglbakcjihohab

/-! Laws for items inside a region whose order is open; single fields of an item written over. -/
namespace Go.Proofs.Ytpglbakcjihohab
open Go.RowKit
set_option maxRecDepth 100000

theorem set_list {A : Array Value} {i : Nat} {v : Value} : (A.setIfInBounds i v).toList = A.toList.set i v := by simp
theorem IsIt.setVer {A : Array Value} {x : It} (h : IsIt A x) (v : Int) : IsIt (A.setIfInBounds 2 (.int .i64 v)) { x with ver := v } := by
  show (A.setIfInBounds 2 _).toList = _
  rw [set_list, show A.toList = x.cells from h]; rfl
theorem IsIt.setFin {A : Array Value} {x : It} (h : IsIt A x) (b : Bool) : IsIt (A.setIfInBounds 3 (.bool b)) { x with fin := b } := by
  show (A.setIfInBounds 3 _).toList = _
  rw [set_list, show A.toList = x.cells from h]; rfl
theorem IsIt.setSk {A R : Array Value} {x : It} {s : Sk} (h : IsIt A x) (hR : IsSk R s) : IsIt (lay A 4 R.toList) { x with sk := s } := by
  show (lay A 4 R.toList).toList = _
  have e : R.toList.length = 28 := by simpa using hR.size
  simp only [lay, e, show A.toList = x.cells from h]
  have e2 : x.cells.drop (4 + 28) = [] := List.drop_of_length_le (by rw [It.len]; exact Nat.le_refl _)
  rw [e2, List.append_nil, show R = s.cells from hR]
  rfl
theorem IsIt.range4 {A : Array Value} {x : It} {w : World} {g : Nat} {t : TypeId} (h : IsIt A x) (hg : w.heap[g]? = some (.cells A t)) : w.rangeAt g 4 x.sk.cells.toList := fun j v hv => by
  rw [cell_of_row _ _ _ _ _ _ hg, h.get4 j]; simpa using hv
theorem built_it4 (n k : Int) (b : Bool) (s : Sk) : Try.prog.built 80 [(0, .int .i64 n), (1, .int .i64 k), (3, .bool b), (4, .agg s.cells)] = some (It.mk n k 0 b s).cells.toArray := by kernel_rfl
theorem info_sk' (s : Sk) : (Try.prog.info? 59).map (·.size) = some s.cells.toList.length := by rw [Array.length_toList, s.size_cells]; kernel_rfl

section
variable {ops : Array Oper} {i : Nat} {o : Oper} {a : Act} {w : World} {K : Act → World → Prop} {Q : Exit → Act → World → Prop} {S : World → Prop} {rest : List Oper}
theorem wpOp_of_wp (hi : ops[i]? = some o) (hg : o.guard = none) (h : o.wp Try.prog a w K Q) : wpOp Try.prog ops Q i K a w := by
  unfold wpOp
  simp only [hi, Region.wanted, hg, if_true]
  exact .inl h
theorem wpOp_alloc_it (hi : ops[i]? = some o) (hg : o.guard = none) (ho : o.op = .alloc 80)
    (h : ∀ Z, IsIt Z It.zero → K (a.put o.dst (.pointer (some ⟨w.heap.size, 0, none⟩))) (w.alloc (.cells Z 80))) : wpOp Try.prog ops Q i K a w :=
  wpOp_of_wp hi hg (by
    have hz' : (zeroValue 80).run Try.prog w = .ok (.agg It.zero.cells.toArray) w := by
      have hz := zero_it
      cases hq : Try.prog.info? 80 with
      | none => simp [hq] at hz
      | some i => simp [hq] at hz; simp [zeroValue, typeInfo, hq, hz]
    unfold Oper.wp execOp
    simp only [ho, Instr.alloc, Sem.run_bind, hz', Result.andThen_ok, newVar, newRow, newObj, Sem.run_pure]
    exact h _ (isIt_of _))
theorem wpOp_build_it (hi : ops[i]? = some o) (hg : o.guard = none) (parts : Array (Nat × Operand)) (ho : o.op = .build 80 parts) (x : It)
    (hz : Try.prog.built 80 (parts.map fun (i, x) => (i, a.eval x)).toList = some x.cells.toArray)
    (h : ∀ M, IsIt M x → K (a.put o.dst (.agg M)) w) : wpOp Try.prog ops Q i K a w :=
  wpOp_of_wp hi hg (by
    have hw := wp_build (P := Try.prog) (o := o) (a := a) (w := w) (K := K) (Q := Q) 80 parts ho (by rw [hz]; rfl) (by rw [hz]; exact h _ (isIt_of _))
    exact hw)
theorem wpOp_store_it {c : Array Value} {g : Nat} (hi : ops[i]? = some o) (hg : o.guard = none) (x y : Operand) (ho : o.op = .store 80 x y) (A : Array Value) (s : It)
    (hx : a.eval x = .pointer (some ⟨g, 0, none⟩)) (hy : a.eval y = .agg A) (hA : IsIt A s) (hgg : w.heap[g]? = some (.cells c 80)) (hc : c.size = 32)
    (h : K (a.put o.dst undef) (w.setRow g A)) : wpOp Try.prog ops Q i K a w :=
  wpOp_of_wp hi hg (wp_store_row _ x y ho g A hx hy _ c hgg (info_it hA) (by rw [hA.size, hc]) hA.one h)
/-- A sketch into an item's field. -/
theorem wp_store_sk4 {c : Array Value} {g : Nat} {z : It} (x y : Operand) (ho : o.op = .store 59 x y) (R : Array Value) (s : Sk)
    (hx : a.eval x = .pointer (some ⟨g, 4, none⟩)) (hy : a.eval y = .agg R) (hR : IsSk R s) (hgg : w.heap[g]? = some (.cells c 80)) (hc : IsIt c z)
    (h : ∀ M, IsIt M { z with sk := s } → K (a.put o.dst undef) (w.setRow g M)) : o.wp Try.prog a w K Q :=
  wp_store_lay 59 x y ho g 4 R hx hy _ c hgg (info_sk hR) (by rw [hR.size, hc.size]; decide) hR.one (h _ (hc.setSk hR))
theorem store_sk4 {c : Array Value} {g : Nat} {z : It} (hgd : o.guard = none) (x y : Operand) (ho : o.op = .store 59 x y) (R : Array Value) (s : Sk)
    (hx : a.eval x = .pointer (some ⟨g, 4, none⟩)) (hy : a.eval y = .agg R) (hR : IsSk R s) (hgg : w.heap[g]? = some (.cells c 80)) (hc : IsIt c z)
    (h : ∀ M, IsIt M { z with sk := s } → wpList Try.prog ops Q rest (a.put o.dst undef) (w.setRow g M)) : wpList Try.prog ops Q (o :: rest) a w :=
  wpList_plain hgd fun _ hK => wp_store_sk4 x y ho R s hx hy hR hgg hc fun M hM => hK _ _ (h M hM)
theorem yieldsIf_load_sk_mid (hw : Region.wanted o (yielded ops a.tmps) = true) (x : Operand) (ho : o.op = .load 59 x) (g off : Nat) (hx : a.eval x = .pointer (some ⟨g, off, none⟩)) (A : Array Value) (s : Sk) (hA : IsSk A s)
    (hS : ∀ w, S w → w.rangeAt g off s.cells.toList) : YieldsIf Try.prog ops S o (.agg A) a := by
  have e : A = s.cells.toList.toArray := by rw [show A = s.cells from hA]
  rw [e]
  exact yieldsIf_load_mid hw _ x ho g off hx s.cells.toList _ hS Try.underlying59 rfl (info_sk' s)
theorem wp_load_sk_mid (x : Operand) (ho : o.op = .load 59 x) (g off : Nat) (hx : a.eval x = .pointer (some ⟨g, off, none⟩)) (s : Sk)
    (hg : w.rangeAt g off s.cells.toList) (h : ∀ A, IsSk A s → K (a.put o.dst (.agg A)) w) : o.wp Try.prog a w K Q :=
  wp_load_mid _ x ho g off hx s.cells.toList _ hg Try.underlying59 rfl (info_sk' s) (h _ (by simp [IsSk]))
theorem load_sk_mid (hgd : o.guard = none) (x : Operand) (ho : o.op = .load 59 x) (g off : Nat) (hx : a.eval x = .pointer (some ⟨g, off, none⟩)) (s : Sk)
    (hg : w.rangeAt g off s.cells.toList) (h : ∀ A, IsSk A s → wpList Try.prog ops Q rest (a.put o.dst (.agg A)) w) : wpList Try.prog ops Q (o :: rest) a w :=
  wpList_load_mid hgd _ x ho g off hx s.cells.toList _ hg Try.underlying59 rfl (info_sk' s) (h _ (by simp [IsSk]))
end
end Go.Proofs.Ytpglbakcjihohab

/-! 'known': a leaf's items, for every leaf's state. -/
namespace Go.Proofs.Ytpglbakcjihohab
open Go.RowKit
set_option maxRecDepth 100000

theorem cell_setRow {w : World} {g : Nat} {A : Array Value} {p : Addr} {v : Value} (hne : p.block ≠ g) (h : w.cell? p = some v) : (w.setRow g A).cell? p = some v := by
  rw [World.cell?_of_block (w := w) (setRow_other w g p.block A hne)]; exact h
theorem built_it4' (n k : Int) (b : Bool) {E : Array Value} {s : Sk} (hE : IsSk E s) : Try.prog.built 80 [(0, .int .i64 n), (1, .int .i64 k), (3, .bool b), (4, .agg E)] = some (It.mk n k 0 b s).cells.toArray := by
  rw [show E = s.cells from hE]; exact built_it4 n k b s
theorem known_b {w wr w5 : World} {u7 : Value} {ks : List It} {A : Array Value} {o : Obj} {t : TypeId} (hB : Below w.heap.size w wr) (ho : Own clIt wr (w.heap.size + 1) 80 u7 ks) (gA : wr.heap[w.heap.size]? = some (.cells A t)) (hg : (wr.alloc o).grownBy w5 u7.ownBlock) :
    Below w.heap.size w w5 ∧ w5.heap[w.heap.size]? = some (.cells A t) := by
  have h1 := bnext hB (below_alloc wr o)
  refine ⟨h1.trans (grown_below hg _ h1.size fun k hk => by have := (ho.lt k hk).1; omega), ?_⟩
  rw [hg.block _ (by have := lt_of_blk gA; simp; omega) (fun e => by have := (ho.lt _ e.symm).1; omega)]
  exact blk_old gA
end Go.Proofs.Ytpglbakcjihohab

/-! The document's store in memory: its blocks, whose they are, and what stands in them. -/
namespace Go.Proofs.Ytpglbakcjihohab
open Go.RowKit
set_option maxRecDepth 100000

/-! ### One cell of one thing of an owned row -/
section
variable {α : Type} {C : Cl α}
theorem Own.cell_at {w : World} {base : Nat} {e : TypeId} {g n cap : Nat} {l : List α} (h : Own C w base e (.slice (some ⟨g, 0, none⟩) n cap) l) (k : Nat) (x : α) (hx : l[k]? = some x) (j : Nat) (u : Value) (hu : (C.cells x)[j]? = some u) :
    w.cell? ⟨g, k * C.size + j, none⟩ = some u := by
  obtain ⟨p, c, hv, _, _, hr⟩ := h.form
  cases hv
  rcases hr with rfl | ⟨b, off, e1, _, hc⟩
  · simp at hx
  · cases e1
    have := hc k x hx j u hu
    rwa [Nat.zero_add] at this
theorem Own.blk {w : World} {base : Nat} {e : TypeId} {g n cap : Nat} {l : List α} (h : Own C w base e (.slice (some ⟨g, 0, none⟩) n cap) l) : ∃ cur, w.heap[g]? = some (.cells cur e) := by
  rcases h.2 with ⟨e1, _⟩ | ⟨g2, cap2, cur, e1, _, hg, _⟩
  · cases e1
  · cases e1; exact ⟨cur, hg⟩
theorem Own.cell_set {w : World} {base : Nat} {e : TypeId} {g n cap : Nat} {l : List α} (h : Own C w base e (.slice (some ⟨g, 0, none⟩) n cap) l) (k : Nat) (x x' : α) (hx : l[k]? = some x) (j : Nat) (u : Value) (hj : j < C.size) (hu : C.cells x' = (C.cells x).set j u) :
    Own C (w.setCell ⟨g, k * C.size + j, none⟩ u) base e (.slice (some ⟨g, 0, none⟩) n cap) (l.set k x') := by
  obtain ⟨hk, hxk⟩ := List.getElem?_eq_some_iff.1 hx
  obtain ⟨cur, h1, h2, h3⟩ := h.set k x' hk
  refine h3.chg fun q hq => ?_
  obtain rfl : g = q := by simpa [Value.ownBlock] using hq
  rw [heap_setCell_same _ _ _ _ _ _ h1, setRow_heap w g cur _ e _ h1]
  congr 2
  apply Array.ext_getElem?
  intro i
  have hl : (C.cells x').length = C.size := Cl.len x'
  by_cases hin : k * C.size ≤ i ∧ i < k * C.size + C.size
  · obtain ⟨d, rfl⟩ : ∃ d, i = k * C.size + d := ⟨i - k * C.size, by omega⟩
    rw [lay_get_in (by rw [hl]; exact h2) (by rw [hl]; omega), hu, Array.getElem?_setIfInBounds, List.getElem?_set]
    by_cases e1 : j = d
    · subst e1
      rw [if_pos rfl, if_pos rfl, if_pos (by omega), if_pos (by rw [Cl.len]; omega)]
    · rw [if_neg (by omega), if_neg e1]
      obtain ⟨v, hv⟩ : ∃ v, (C.cells x)[d]? = some v := ⟨_, List.getElem?_eq_getElem (by rw [Cl.len]; omega)⟩
      rw [hv]
      have := h.cell_at k x hx d v hv
      rw [cell_of_row _ _ _ _ _ _ h1] at this
      exact this
  · rw [lay_get_out (by rw [hl]; exact h2) (by rw [hl]; omega), Array.getElem?_setIfInBounds, if_neg (by omega)]
/-- Many cells of one thing. -/
theorem Own.part_set {w : World} {base : Nat} {e : TypeId} {g n cap : Nat} {l : List α} (h : Own C w base e (.slice (some ⟨g, 0, none⟩) n cap) l) (k : Nat) (x x' : α) (hx : l[k]? = some x) (j : Nat) (us : List Value) (hj : j + us.length ≤ C.size)
    (hin : ∀ d, d < us.length → (C.cells x')[j + d]? = us[d]?) (hout : ∀ d, d < j ∨ j + us.length ≤ d → (C.cells x')[d]? = (C.cells x)[d]?) :
    ∃ cur, w.heap[g]? = some (.cells cur e) ∧ k * C.size + j + us.length ≤ cur.size ∧ Own C (w.setRow g (lay cur (k * C.size + j) us)) base e (.slice (some ⟨g, 0, none⟩) n cap) (l.set k x') := by
  obtain ⟨hk, hxk⟩ := List.getElem?_eq_some_iff.1 hx
  obtain ⟨cur, h1, h2, h3⟩ := h.set k x' hk
  refine ⟨cur, h1, by omega, h3.chg fun q hq => ?_⟩
  obtain rfl : g = q := by simpa [Value.ownBlock] using hq
  rw [setRow_heap w g cur _ e _ h1, setRow_heap w g cur _ e _ h1]
  congr 2
  apply Array.ext_getElem?
  intro i
  have hl : (C.cells x').length = C.size := Cl.len x'
  by_cases hi : k * C.size + j ≤ i ∧ i < k * C.size + j + us.length
  · obtain ⟨d, rfl⟩ : ∃ d, i = k * C.size + j + d := ⟨i - (k * C.size + j), by omega⟩
    rw [lay_get_in (by omega) (by omega)]
    rw [show k * C.size + j + d = k * C.size + (j + d) by omega, lay_get_in (by rw [hl]; exact h2) (by rw [hl]; omega), hin d (by omega)]
  · rw [lay_get_out (by omega) (by omega)]
    by_cases hi2 : k * C.size ≤ i ∧ i < k * C.size + C.size
    · obtain ⟨d, rfl⟩ : ∃ d, i = k * C.size + d := ⟨i - k * C.size, by omega⟩
      rw [lay_get_in (by rw [hl]; exact h2) (by rw [hl]; omega), hout d (by omega)]
      obtain ⟨v, hv⟩ : ∃ v, (C.cells x)[d]? = some v := ⟨_, List.getElem?_eq_getElem (by rw [Cl.len]; omega)⟩
      rw [hv]
      have := h.cell_at k x hx d v hv
      rw [cell_of_row _ _ _ _ _ _ h1] at this
      exact this
    · rw [lay_get_out (by rw [hl]; exact h2) (by rw [hl]; omega)]
end

/-! ### A node -/
structure NdC where
  live : LfC
  kept : LfC
  vi : Sl
  vs : Sl
def NdC.cells (c : NdC) : List Value := c.live.cells ++ c.kept.cells ++ [c.vi.val, c.vs.val]
theorem NdC.len (c : NdC) : c.cells.length = 46 := by simp [NdC.cells, LfC.len]
theorem NdC.one (c : NdC) : ∀ v ∈ c.cells, v.oneCell' = true := fun v hv => by
  simp only [NdC.cells, List.mem_append, List.mem_cons, List.not_mem_nil, or_false] at hv
  rcases hv with (hv | hv) | rfl | rfl
  · exact c.live.one v hv
  · exact c.kept.one v hv
  · rfl
  · rfl
abbrev clNd : Cl NdC := ⟨NdC.cells, 46, by decide, NdC.len, NdC.one⟩
theorem NdC.clsize : clNd.size = 46 := rfl
theorem NdC.get_live (c : NdC) (j : Nat) (hj : j < 22) : c.cells[j]? = c.live.cells[j]? := by
  rw [NdC.cells, List.append_assoc, List.getElem?_append_left (by rw [LfC.len]; exact hj)]
theorem NdC.get_kept (c : NdC) (j : Nat) (hj : j < 22) : c.cells[22 + j]? = c.kept.cells[j]? := by
  rw [NdC.cells, List.append_assoc, List.getElem?_append_right (by rw [LfC.len]; omega), LfC.len, List.getElem?_append_left (by rw [LfC.len]; omega)]; congr 1; omega
theorem NdC.get_vi (c : NdC) : c.cells[44]? = some (.slice c.vi.p c.vi.n c.vi.c) := by
  rw [NdC.cells, List.getElem?_append_right (by simp [LfC.len])]; simp [LfC.len]; rfl
theorem NdC.get_vs (c : NdC) : c.cells[45]? = some (.slice c.vs.p c.vs.n c.vs.c) := by
  rw [NdC.cells, List.getElem?_append_right (by simp [LfC.len])]; simp [LfC.len]; rfl

structure Nd where
  lev : List Ev3
  lcl : Nat → Bool
  lmk : Int
  kev : List Ev3
  kcl : Nat → Bool
  kmk : Int
  items : List It
  saved : List It
/-- What a node must be for the walk: numbers that fit, lists that are not too long. -/
structure Nd.Ok (d : Nd) : Prop where
  lev : EvOk d.lev
  kev : EvOk d.kev
  lmk : 0 ≤ d.lmk ∧ d.lmk ≤ 20000
  kmk : 0 ≤ d.kmk ∧ d.kmk ≤ 20000
  items : AllOkI d.items
  saved : AllOkI d.saved
  li : d.items.length ≤ 160
  ls : d.saved.length ≤ 160
theorem TgV.own {own own' : Ghost} {w : World} {v : Value} {t : Tag} {α : Type} {C : Cl α} {B : Nat} {e : TypeId} {l : List α} (h : TgV own v t) (s : Same w own own') (ho : Own C w B e v l) (hf : t ≠ .free) : TgV own' v t := fun k hk => by
  rw [s k (ho.lt k hk).2 (by rw [h k hk]; exact hf)]; exact h k hk
theorem Own.fr {own : Ghost} {S : Tag → Prop} {w w' : World} {v : Value} {t : Tag} {α : Type} {C : Cl α} {B : Nat} {e : TypeId} {l : List α} (ho : Own C w B e v l) (f : Fr own S w w') (h : TgV own v t) (hf : t ≠ .free) (hS : ¬ S t) : Own C w' B e v l :=
  ho.chg fun k hk => f.block k (ho.lt k hk).2 (by rw [h k hk]; exact hf) (by rw [h k hk]; exact hS)
end Go.Proofs.Ytpglbakcjihohab

/-! 'living', 'stored', 'Items', 'Watermark' of the document's store. -/
namespace Go.Proofs.Ytpglbakcjihohab
open Go.RowKit
set_option maxRecDepth 100000

/-- What a node has as it lives, and as it is stored. -/
def lvg (t : List Int) (d : Nd) (n : Nat) : List It := if isLf t n = true then known n d.lev d.lcl else d.items
def std (t : List Int) (d : Nd) (n : Nat) : List It := if isLf t n = true then known n d.kev d.kcl else d.saved
def lvAt (t : List Int) (D : List Nd) (n : Int) : List It := if isNd t n = true then ((D[n.toNat]?).map fun d => lvg t d n.toNat).getD [] else []
def wmAt (t : List Int) (D : List Nd) (n : Int) : Int := if wrg t n = 0 then ((D[n.toNat]?).map fun d => d.lmk).getD 0 else -1
theorem itOf_ok {l : List Ev3} (h : EvOk l) (n : Int) (hn : fitsI n) (cl : Nat → Bool) (k : Nat) (hk : k < 20) (hl : l.length ≤ 1000000000) : (itOf n l cl k).Ok := by
  refine ⟨hn, ⟨?_, ?_⟩, ⟨?_, ?_⟩, skOf_ok _ fun e he => ?_⟩
  · show -9223372036854775808 ≤ (k : Int); omega
  · show (k : Int) ≤ 9223372036854775807; omega
  · show -9223372036854775808 ≤ ((evK l k).length : Int); omega
  · show ((evK l k).length : Int) ≤ 9223372036854775807; have := evK_len l k; omega
  · have := evK_ok h k l.length e; rw [List.take_length] at this; exact this he
theorem known_ok {l : List Ev3} (h : EvOk l) (n : Int) (hn : fitsI n) (cl : Nat → Bool) (hl : l.length ≤ 1000000000) : AllOkI (known n l cl) := fun i x hx => by
  have hm := List.mem_of_getElem? hx
  simp only [known, knownTo, List.mem_map, List.mem_filter, List.mem_range] at hm
  obtain ⟨k, ⟨hk, _⟩, rfl⟩ := hm
  exact itOf_ok h n hn cl k hk hl
theorem known_len (n : Int) (l : List Ev3) (cl : Nat → Bool) : (known n l cl).length ≤ 20 := knownTo_len n l cl 20
theorem lvg_len {t : List Int} {d : Nd} {n : Nat} (ok : d.Ok) : (lvg t d n).length ≤ 160 := by
  unfold lvg; split
  · have := known_len n d.lev d.lcl; omega
  · exact ok.li
theorem std_len {t : List Int} {d : Nd} {n : Nat} (ok : d.Ok) : (std t d n).length ≤ 160 := by
  unfold std; split
  · have := known_len n d.kev d.kcl; omega
  · exact ok.ls
theorem lvg_ok {t : List Int} {d : Nd} {n : Nat} (ok : d.Ok) (hn : n < 8) (hl : d.lev.length ≤ 1000000000) : AllOkI (lvg t d n) := by
  unfold lvg; split
  · exact known_ok ok.lev n ⟨by omega, by omega⟩ _ hl
  · exact ok.items
theorem std_ok {t : List Int} {d : Nd} {n : Nat} (ok : d.Ok) (hn : n < 8) (hl : d.kev.length ≤ 1000000000) : AllOkI (std t d n) := by
  unfold std; split
  · exact known_ok ok.kev n ⟨by omega, by omega⟩ _ hl
  · exact ok.saved
theorem Own.sl {α : Type} {C : Cl α} {w : World} {B : Nat} {e : TypeId} {s : Sl} {l : List α} (h : Own C w B e s.val l) : l.length = s.n ∧ RowsAt C w s.p l := by
  obtain ⟨p, c, hv, _, _, hr⟩ := h.form
  have e : s.p = p ∧ s.n = l.length ∧ s.c = c := by simpa [Sl.val] using hv
  exact ⟨e.2.1.symm, by rw [e.1]; exact hr⟩
section
variable {ops : Array Oper} {rest : List Oper} {o : Oper} {a : Act} {w : World} {Q : Exit → Act → World → Prop} {K : Act → World → Prop}
end
theorem Own.live {w : World} {B : Nat} {e : TypeId} {gn n cn : Nat} {C : List NdC} (h : Own clNd w B e (.slice (some ⟨gn, 0, none⟩) n cn) C) (k : Nat) (c : NdC) (hc : C[k]? = some c) : w.rangeAt gn (k * 46) c.live.cells := fun j u hu => by
  have hj : j < 22 := by rw [← c.live.len]; exact (List.getElem?_eq_some_iff.1 hu).1
  exact h.cell_at k c hc j u (by show c.cells[j]? = _; rw [c.get_live j hj]; exact hu)
theorem Own.kept {w : World} {B : Nat} {e : TypeId} {gn n cn : Nat} {C : List NdC} (h : Own clNd w B e (.slice (some ⟨gn, 0, none⟩) n cn) C) (k : Nat) (c : NdC) (hc : C[k]? = some c) : w.rangeAt gn (k * 46 + 22) c.kept.cells := fun j u hu => by
  have hj : j < 22 := by rw [← c.kept.len]; exact (List.getElem?_eq_some_iff.1 hu).1
  have := h.cell_at k c hc (22 + j) u (by show c.cells[22 + j]? = _; rw [c.get_kept j hj]; exact hu)
  rw [Nat.add_assoc]; exact this

end Go.Proofs.Ytpglbakcjihohab

/-! An answer of P12 as numbers and as cells; laws of the walk for it; what is asked, as plain functions. -/
namespace Go.Proofs.Ytpglbakcjihohab
open Go.RowKit
set_option maxRecDepth 100000

structure An where
  sk : Sk
  sealed : Bool
  closed : Int
def An.cells (x : An) : List Value := x.sk.cells.toList ++ [.bool x.sealed, .int .i64 x.closed]
theorem An.len (x : An) : x.cells.length = 30 := by simp [An.cells, Sk.size_cells]
theorem An.one (x : An) : ∀ v ∈ x.cells, v.oneCell' = true := fun v hv => by
  simp only [An.cells, List.mem_append, List.mem_cons, List.not_mem_nil, or_false] at hv
  rcases hv with hv | rfl | rfl
  · exact x.sk.one v hv
  · rfl
  · rfl
structure An.Ok (x : An) : Prop where
  sk : x.sk.Ok
  closed : fitsI x.closed
def An.zero : An := ⟨Sk.zero, false, 0⟩
theorem An.zero_ok : An.zero.Ok := ⟨Sk.zero_ok, by constructor <;> decide⟩
def IsAn (A : Array Value) (x : An) : Prop := A.toList = x.cells
theorem IsAn.size {A : Array Value} {x : An} (h : IsAn A x) : A.size = 30 := by have := congrArg List.length (show A.toList = x.cells from h); rw [An.len] at this; simpa using this
theorem IsAn.one {A : Array Value} {x : An} (h : IsAn A x) : A.all (·.oneCell') = true :=
  Array.all_eq_true_iff_forall_mem.2 fun v hv => x.one v (by rw [← show A.toList = x.cells from h]; simpa using hv)
theorem isAn_of (x : An) : IsAn x.cells.toArray x := by simp [IsAn]
theorem IsAn.get28 {A : Array Value} {x : An} (h : IsAn A x) : A[28]? = some (.bool x.sealed) := by
  rw [← Array.getElem?_toList, show A.toList = x.cells from h, An.cells, List.getElem?_append_right (by simp [Sk.size_cells])]; simp [Sk.size_cells]
theorem IsAn.get29 {A : Array Value} {x : An} (h : IsAn A x) : A[29]? = some (.int .i64 x.closed) := by
  rw [← Array.getElem?_toList, show A.toList = x.cells from h, An.cells, List.getElem?_append_right (by simp [Sk.size_cells])]; simp [Sk.size_cells]
theorem IsAn.range0 {A : Array Value} {x : An} {w : World} {g : Nat} {t : TypeId} (h : IsAn A x) (hg : w.heap[g]? = some (.cells A t)) : w.rangeAt g 0 x.sk.cells.toList := fun j v hv => by
  rw [cell_of_row _ _ _ _ _ _ hg, Nat.zero_add, ← Array.getElem?_toList, show A.toList = x.cells from h, An.cells, List.getElem?_append_left (List.getElem?_eq_some_iff.1 hv).1]; exact hv
theorem IsAn.setSealed {A : Array Value} {x : An} (h : IsAn A x) (b : Bool) : IsAn (A.setIfInBounds 28 (.bool b)) { x with sealed := b } := by
  show (A.setIfInBounds 28 _).toList = _
  rw [set_list, show A.toList = x.cells from h]
  simp [An.cells, Sk.size_cells]
theorem IsAn.setClosed {A : Array Value} {x : An} (h : IsAn A x) (n : Int) : IsAn (A.setIfInBounds 29 (.int .i64 n)) { x with closed := n } := by
  show (A.setIfInBounds 29 _).toList = _
  rw [set_list, show A.toList = x.cells from h]
  simp [An.cells, Sk.size_cells]
theorem IsAn.setSk {A R : Array Value} {x : An} {s : Sk} (h : IsAn A x) (hR : IsSk R s) : IsAn (lay A 0 R.toList) { x with sk := s } := by
  show (lay A 0 R.toList).toList = _
  have e : R.toList.length = 28 := by simpa using hR.size
  simp only [lay, e, show A.toList = x.cells from h, An.cells, List.take_zero, List.nil_append, Nat.zero_add]
  rw [List.drop_append, List.drop_of_length_le (by simp [Sk.size_cells]), show R = s.cells from hR]
  simp [Sk.size_cells]
theorem info_an {A : Array Value} {x : An} (h : IsAn A x) : (Try.prog.info? 61).map (·.size) = some A.size := by rw [h.size]; kernel_rfl
theorem zero_an : (Try.prog.info? 61).bind (·.zero) = some (.agg An.zero.cells.toArray) := by kernel_rfl
theorem built_an0 : Try.prog.built 61 [] = some An.zero.cells.toArray := by kernel_rfl
theorem built_an (s : Sk) : Try.prog.built 61 [(0, .agg s.cells)] = some (An.mk s false 0).cells.toArray := by kernel_rfl
theorem built_an' {E : Array Value} {s : Sk} (hE : IsSk E s) : Try.prog.built 61 [(0, .agg E)] = some (An.mk s false 0).cells.toArray := by rw [show E = s.cells from hE]; exact built_an s
section
variable {ops : Array Oper} {rest : List Oper} {o : Oper} {a : Act} {w : World} {Q : Exit → Act → World → Prop} {K : Act → World → Prop}
theorem alloc_an (hgd : o.guard = none) (ho : o.op = .alloc 61)
    (h : ∀ Z, IsAn Z An.zero → wpList Try.prog ops Q rest (a.put o.dst (.pointer (some ⟨w.heap.size, 0, none⟩))) (w.alloc (.cells Z 61))) : wpList Try.prog ops Q (o :: rest) a w :=
  wpList_alloc_z hgd _ ho _ zero_an (h _ (isAn_of _))
theorem build_an (hgd : o.guard = none) (parts : Array (Nat × Operand)) (ho : o.op = .build 61 parts) (x : An)
    (hz : Try.prog.built 61 (parts.map fun (i, x) => (i, a.eval x)).toList = some x.cells.toArray)
    (h : ∀ M, IsAn M x → wpList Try.prog ops Q rest (a.put o.dst (.agg M)) w) : wpList Try.prog ops Q (o :: rest) a w :=
  wpList_build_z hgd _ parts ho _ hz (h _ (isAn_of _))
theorem load_an (hgd : o.guard = none) (x : Operand) (ho : o.op = .load 61 x) (g : Nat) (hx : a.eval x = .pointer (some ⟨g, 0, none⟩)) (A : Array Value) (s : An) (hA : IsAn A s)
    (hg : w.heap[g]? = some (.cells A 61)) (h : wpList Try.prog ops Q rest (a.put o.dst (.agg A)) w) : wpList Try.prog ops Q (o :: rest) a w :=
  wpList_load_row hgd _ x ho g hx _ A (0, 0) _ hg Try.underlying61 rfl (info_an hA) h
theorem store_an {c : Array Value} {g : Nat} (hgd : o.guard = none) (x y : Operand) (ho : o.op = .store 61 x y) (A : Array Value) (s : An)
    (hx : a.eval x = .pointer (some ⟨g, 0, none⟩)) (hy : a.eval y = .agg A) (hA : IsAn A s) (hg : w.heap[g]? = some (.cells c 61)) (hc : c.size = 30)
    (h : wpList Try.prog ops Q rest (a.put o.dst undef) (w.setRow g A)) : wpList Try.prog ops Q (o :: rest) a w :=
  wpList_store_row hgd _ x y ho g A hx hy _ c hg (info_an hA) (by rw [hA.size, hc]) hA.one h
theorem store_an_new {o0 : World} {c : Array Value} {n : Nat} (hgd : o.guard = none) (x y : Operand) (ho : o.op = .store 61 x y) (A : Array Value) (s z : An)
    (hx : a.eval x = .pointer (some ⟨n, 0, none⟩)) (hy : a.eval y = .agg A) (hn : n = o0.heap.size) (hA : IsAn A s) (hc : IsAn c z)
    (h : wpList Try.prog ops Q rest (a.put o.dst undef) (o0.alloc (.cells A 61))) : wpList Try.prog ops Q (o :: rest) a (o0.alloc (.cells c 61)) :=
  wpList_store_new hgd x y ho A hx hy hn (info_an hA) (by rw [hA.size, hc.size]) hA.one h
theorem wp_store_sk0 {c : Array Value} {g : Nat} {z : An} (x y : Operand) (ho : o.op = .store 59 x y) (R : Array Value) (s : Sk)
    (hx : a.eval x = .pointer (some ⟨g, 0, none⟩)) (hy : a.eval y = .agg R) (hR : IsSk R s) (hgg : w.heap[g]? = some (.cells c 61)) (hc : IsAn c z)
    (h : ∀ M, IsAn M { z with sk := s } → K (a.put o.dst undef) (w.setRow g M)) : o.wp Try.prog a w K Q :=
  wp_store_lay 59 x y ho g 0 R hx hy _ c hgg (info_sk hR) (by rw [hR.size, hc.size]; decide) hR.one (h _ (hc.setSk hR))
end
/-- The answer of a function whose results are an answer in memory and a number. -/
theorem results_an {fn : Func} {p q : Tmp} (h : fn.results = #[.cell p 61, .tmp q]) (tmps : Array Value) (w : World) (g : Nat) (A : Array Value) (s : An) (hA : IsAn A s)
    (hp : tmps.getD p undef = .pointer (some ⟨g, 0, none⟩)) (hg : w.heap[g]? = some (.cells A 61)) : (results fn tmps).run Try.prog w = .ok (.tuple #[.agg A, tmps.getD q undef]) w := by
  have hl := run_loadVar_row (P := Try.prog) w g 61 61 A (0, 0) _ hg Try.underlying61 rfl (info_an hA)
  have hp' : tmps[p]?.getD undef = .pointer (some ⟨g, 0, none⟩) := by simpa using hp
  unfold results
  simp [h, hp', asAddr, hl]

/-! ### What is asked -/
def inRg (low high : Int) (x : It) : Bool := decide (low ≤ x.win ∧ x.win ≤ high)
def skAll (l : List It) : Sk := l.foldl (fun s x => mrg s x.sk) Sk.empty
def cnt (l : List It) : Nat := (l.filter (·.fin)).length
/-- How many leaves are under a node (of the first m). -/
def lvU (t : List Int) (n : Int) (m : Nat) : Nat := ((List.range m).filter fun i : Nat => isLf t i && under t i n).length
def askErr (t : List Int) (n low high : Int) : Int := if isNd t n = true then (if isRg low high = true then 0 else 8) else 2
def askAn (t : List Int) (l : List It) (n low high : Int) : An := if askErr t n low high = 0 then
    ⟨skAll (l.filter (inRg low high)), decide ((cnt (l.filter (inRg low high)) : Int) = (lvU t n t.length : Int) * (high - low + 1)), cnt (l.filter (inRg low high))⟩ else An.zero
theorem skAll_append (l : List It) (x : It) : skAll (l ++ [x]) = mrg (skAll l) x.sk := by simp [skAll]
theorem cnt_append (l : List It) (x : It) : cnt (l ++ [x]) = cnt l + (if x.fin = true then 1 else 0) := by
  unfold cnt; rw [List.filter_append]
  cases h : x.fin <;> simp [h]
theorem filt_take (l : List It) (low high : Int) (i : Nat) (x : It) (h : l[i]? = some x) : (l.take (i + 1)).filter (inRg low high) = (l.take i).filter (inRg low high) ++ (if inRg low high x = true then [x] else []) := by
  rw [List.take_add_one, h]
  cases hb : inRg low high x <;> simp [List.filter_append, hb]
theorem skAll_ok {l : List It} (h : ∀ x ∈ l, x.Ok) : (skAll l).Ok := by
  suffices H : ∀ (l : List It) (s : Sk), s.Ok → (∀ x ∈ l, x.Ok) → (l.foldl (fun s x => mrg s x.sk) s).Ok from H l _ Sk.empty_ok h
  intro l
  induction l with
  | nil => intro s hs _; exact hs
  | cons x l ih => intro s hs h; exact ih _ (mrg_ok hs (h x (by simp)).sk) fun y hy => h y (by simp [hy])
theorem cnt_le (l : List It) : cnt l ≤ l.length := List.length_filter_le _ _
theorem lvU_succ (t : List Int) (n : Int) (m : Nat) : lvU t n (m + 1) = lvU t n m + (if (isLf t m && under t m n) = true then 1 else 0) := by
  unfold lvU; rw [List.range_succ, List.filter_append]
  cases h : (isLf t m && under t m n) <;> simp [h]
theorem lvU_le (t : List Int) (n : Int) (m : Nat) : lvU t n m ≤ m := by
  have := List.length_filter_le (fun i : Nat => isLf t i && under t i n) (List.range m)
  simpa [lvU] using this
end Go.Proofs.Ytpglbakcjihohab

/-! The document's Ask, for every node and windows. -/
namespace Go.Proofs.Ytpglbakcjihohab
open Go.RowKit
set_option maxRecDepth 100000

theorem It.get0 (x : It) : x.cells[0]? = some (.int .i64 x.leaf) := by simp [It.cells]
theorem It.get1 (x : It) : x.cells[1]? = some (.int .i64 x.win) := by simp [It.cells]
theorem It.get2 (x : It) : x.cells[2]? = some (.int .i64 x.ver) := by simp [It.cells]
theorem It.get3 (x : It) : x.cells[3]? = some (.bool x.fin) := by simp [It.cells]
theorem It.get4 (x : It) (i : Nat) : x.cells[4 + i]? = x.sk.cells.toList[i]? := by rw [Nat.add_comm]; simp [It.cells]
theorem It.range_sk (x : It) {w : World} {b o : Nat} (h : w.rangeAt b o x.cells) : w.rangeAt b (o + 4) x.sk.cells.toList := fun i u hu => by
  rw [Nat.add_assoc]; exact h (4 + i) u (by rw [x.get4 i]; exact hu)
/-- What Ask has in memory while it goes over the items. -/
structure AW (w wr : World) (ga : Nat) (Z M : Array Value) (p : Option Addr) (L : List It) : Prop where
  below : Below w.heap.size w wr
  z : wr.heap[w.heap.size]? = some (.cells Z 61)
  m : wr.heap[ga]? = some (.cells M 61)
  rows : RowsAt clIt wr p L
  far : ∀ b off, p = some ⟨b, off, none⟩ → b ≠ ga
theorem AW.row {w wr : World} {ga : Nat} {Z M M' : Array Value} {p : Option Addr} {L : List It} (h : AW w wr ga Z M p L) (hg : w.heap.size < ga) : AW w (wr.setRow ga M') ga Z M' p L :=
  ⟨below_setRow _ h.below (by omega), setRow_oth (by omega) h.z, setRow_blk h.m, h.rows.chg (by simp) fun b off e => setRow_other _ _ _ _ (h.far b off e), h.far⟩
theorem AW.next {w wr w' : World} {ga : Nat} {Z M : Array Value} {p : Option Addr} {L : List It} (h : AW w wr ga Z M p L) (hb : Below wr.heap.size wr w') : AW w w' ga Z M p L :=
  ⟨bnext h.below hb, keep hb h.z, keep hb h.m, h.rows.below hb, h.far⟩
theorem AW.cell {w wr : World} {ga : Nat} {Z M : Array Value} {p : Option Addr} {L : List It} (h : AW w wr ga Z M p L) (hg : w.heap.size < ga) (o : Nat) (v : Value) : AW w (wr.setCell ⟨ga, o, none⟩ v) ga Z (M.setIfInBounds o v) p L :=
  ⟨h.below.setCell (by show w.heap.size ≤ ga; omega) _, by rw [heap_setCell_other _ _ _ _ (by show w.heap.size ≠ ga; omega)]; exact h.z, heap_setCell_same _ _ _ _ _ _ h.m, h.rows.chg (by simp) fun b off e => heap_setCell_other _ _ _ _ (by show b ≠ ga; exact h.far b off e), h.far⟩

end Go.Proofs.Ytpglbakcjihohab

/-! One node of the document's store changed: what stays. -/
namespace Go.Proofs.Ytpglbakcjihohab
open Go.RowKit
set_option maxRecDepth 100000

def isWd (t : Tag) : Prop := ∃ i, t = .wd i
/-- The row of nodes, or a list of node k. -/
def ofNode (k : Nat) (t : Tag) : Prop := t = .wd 2 ∨ ∃ i, t = .wd i ∧ 4 * k + 3 ≤ i ∧ i ≤ 4 * k + 6
theorem ofNode_wd {k : Nat} {t : Tag} (h : ofNode k t) : isWd t := by
  rcases h with h | ⟨i, h, _⟩
  · exact ⟨2, h⟩
  · exact ⟨i, h⟩
end Go.Proofs.Ytpglbakcjihohab

/-! The document's Ingest, for every node, time, key and value. -/
namespace Go.Proofs.Ytpglbakcjihohab
open Go.RowKit
set_option maxRecDepth 100000

theorem below_drawn' {w w' : World} (h : Below w.drew.heap.size w.drew w') : Below w.heap.size w w' := ⟨h.os, h.tape, h.output, h.size, h.block⟩
section
variable {ops : Array Oper} {i : Nat} {o : Oper} {a : Act} {w : World} {K : Act → World → Prop} {Q : Exit → Act → World → Prop} {S : World → Prop}
theorem hideK (h : ∀ K', Hid (K' = K) → o.wp Try.prog a w K' Q) : o.wp Try.prog a w K Q := h K rfl
end

def ingE (t : List Int) (wid : Int) (D : List Nd) (n at' : Int) (key : ByteArray) : Int :=
  if wrg t n = 0 then (if at' < 0 ∨ 20 * wid ≤ at' then 5 else if 20 < key.size then 6 else if ((D[n.toNat]?).map fun d => d.lcl (at' / wid).toNat).getD false = true then 7 else 0) else wrg t n
def ingD (t : List Int) (wid : Int) (D : List Nd) (n at' : Int) (key : ByteArray) (v : Int) : List Nd :=
  if ingE t wid D n at' key = 0 then (match D[n.toNat]? with | some d => D.set n.toNat { d with lev := d.lev ++ [⟨at' / wid, key, v⟩] } | none => D) else D

end Go.Proofs.Ytpglbakcjihohab

/-! The document's Advance, for every node and time. -/
namespace Go.Proofs.Ytpglbakcjihohab
open Go.RowKit
set_option maxRecDepth 100000

theorem LfC.set_mark (c : LfC) (m : Int) : ({ c with mark := m } : LfC).cells = c.cells.set 21 (.int .i64 m) := by
  simp only [LfC.cells, List.cons_append, List.set_cons_succ]
  rw [List.set_append_right _ _ (by simp)]
  simp
theorem LfC.set_cl (c : LfC) (j : Nat) (hj : j < 20) (b : Bool) : ({ c with cl := fun i => if i = j then b else c.cl i } : LfC).cells = c.cells.set (1 + j) (.bool b) := by
  rw [Nat.add_comm]
  simp only [LfC.cells, List.cons_append, List.set_cons_succ]
  rw [List.set_append_left _ _ (by simpa using hj)]
  congr 2
  apply List.ext_getElem?
  intro i
  rw [List.getElem?_set]
  simp only [List.getElem?_map, List.length_map, List.length_range]
  by_cases hi : i < 20
  · rw [List.getElem?_range hi]
    by_cases e : j = i
    · subst e; simp [hi]
    · have e' : i ≠ j := fun h => e h.symm
      simp [e, e']
  · rw [List.getElem?_eq_none (by simp; omega)]
    split
    · omega
    · rfl
theorem NdC.set_live (c : NdC) (l' : LfC) (i : Nat) (u : Value) (hi : i < 22) (h : l'.cells = c.live.cells.set i u) : ({ c with live := l' } : NdC).cells = c.cells.set i u := by
  simp only [NdC.cells, h, List.append_assoc]
  rw [List.set_append_left _ _ (by rw [LfC.len]; exact hi)]
/-- What is closed once the watermark stands at 'tm', of the first j windows. -/
def clTo (cl : Nat → Bool) (wid tm : Int) (j : Nat) : Nat → Bool := fun i => if i < j ∧ ((i : Int) + 1) * wid ≤ tm then true else cl i
theorem clTo_yes (cl : Nat → Bool) (wid tm : Int) (j : Nat) (h : ((j : Int) + 1) * wid ≤ tm) : clTo cl wid tm (j + 1) = fun i => if i = j then true else clTo cl wid tm j i := by
  funext i
  simp only [clTo]
  by_cases e : i = j
  · subst e; rw [if_pos ⟨by omega, h⟩, if_pos rfl]
  · rw [if_neg e]
    by_cases hi : i < j
    · by_cases h2 : ((i : Int) + 1) * wid ≤ tm
      · rw [if_pos ⟨by omega, h2⟩, if_pos ⟨hi, h2⟩]
      · rw [if_neg (fun x => h2 x.2), if_neg (fun x => h2 x.2)]
    · rw [if_neg (fun x => by omega), if_neg (fun x => hi x.1)]
theorem clTo_no (cl : Nat → Bool) (wid tm : Int) (j : Nat) (h : ¬ ((j : Int) + 1) * wid ≤ tm) : clTo cl wid tm (j + 1) = clTo cl wid tm j := by
  funext i
  simp only [clTo]
  by_cases e : i = j
  · subst e; rw [if_neg (fun x => h x.2), if_neg (fun x => by omega)]
  · by_cases hi : i < j
    · by_cases h2 : ((i : Int) + 1) * wid ≤ tm
      · rw [if_pos ⟨by omega, h2⟩, if_pos ⟨hi, h2⟩]
      · rw [if_neg (fun x => h2 x.2), if_neg (fun x => h2 x.2)]
    · rw [if_neg (fun x => by omega), if_neg (fun x => hi x.1)]
def advE (t : List Int) (wid : Int) (D : List Nd) (n tm : Int) : Int :=
  if wrg t n = 0 then (if tm < ((D[n.toNat]?).map fun d => d.lmk).getD 0 ∨ 20 * wid < tm then 5 else 0) else wrg t n
def advD (t : List Int) (wid : Int) (D : List Nd) (n tm : Int) : List Nd :=
  if advE t wid D n tm = 0 then (match D[n.toNat]? with | some d => D.set n.toNat { d with lmk := tm, lcl := clTo d.lcl wid tm 20 } | none => D) else D


end Go.Proofs.Ytpglbakcjihohab

/-! 'again', and the document's Sync and Crash. -/
namespace Go.Proofs.Ytpglbakcjihohab
open Go.RowKit
set_option maxRecDepth 100000

def LfC.zero : LfC := ⟨⟨none, 0, 0⟩, fun _ => false, 0⟩
theorem isLfC_of (c : LfC) : IsLfC c.cells.toArray c := by simp [IsLfC]
theorem IsLfC.one {A : Array Value} {c : LfC} (h : IsLfC A c) : A.all (·.oneCell') = true :=
  Array.all_eq_true_iff_forall_mem.2 fun v hv => c.one v (by rw [← show A.toList = c.cells from h]; simpa using hv)
theorem IsLfC.setVe {A : Array Value} {c : LfC} (h : IsLfC A c) (s : Sl) : IsLfC (A.setIfInBounds 0 s.val) { c with ve := s } := by
  show (A.setIfInBounds 0 _).toList = _
  rw [set_list, show A.toList = c.cells from h]; rfl
section
variable {ops : Array Oper} {rest : List Oper} {o : Oper} {a : Act} {w : World} {Q : Exit → Act → World → Prop} {K : Act → World → Prop}
end

end Go.Proofs.Ytpglbakcjihohab

/-! The document's Sync and Crash, for every node. -/
namespace Go.Proofs.Ytpglbakcjihohab
open Go.RowKit
set_option maxRecDepth 100000

theorem NdC.set_vs (c : NdC) (s : Sl) : ({ c with vs := s } : NdC).cells = c.cells.set 45 s.val := by
  simp only [NdC.cells]
  rw [List.set_append_right _ _ (by simp [LfC.len])]
  simp [LfC.len]
theorem NdC.set_vi (c : NdC) (s : Sl) : ({ c with vi := s } : NdC).cells = c.cells.set 44 s.val := by
  simp only [NdC.cells]
  rw [List.set_append_right _ _ (by simp [LfC.len])]
  simp [LfC.len]

/-- The error of a call that wants a node. -/
def ndE (t : List Int) (n : Int) : Int := if isNd t n = true then 0 else 2
/-- Sync: what a node is as it lives is stored. -/
def synD (t : List Int) (D : List Nd) (n : Int) : List Nd := if isNd t n = true then (match D[n.toNat]? with | some d => D.set n.toNat { d with kev := d.lev, kcl := d.lcl, kmk := d.lmk, saved := d.items } | none => D) else D
end Go.Proofs.Ytpglbakcjihohab

/-! The document's Crash, for every node. -/
namespace Go.Proofs.Ytpglbakcjihohab
open Go.RowKit
set_option maxRecDepth 100000

/-- Crash: a node lives as it is stored. -/
def craD (t : List Int) (D : List Nd) (n : Int) : List Nd := if isNd t n = true then (match D[n.toNat]? with | some d => D.set n.toNat { d with lev := d.kev, lcl := d.kcl, lmk := d.kmk, items := d.saved } | none => D) else D
end Go.Proofs.Ytpglbakcjihohab

/-! The document's IsTree, IsWidth and Begin. -/
namespace Go.Proofs.Ytpglbakcjihohab
open Go.RowKit
set_option maxRecDepth 100000

def isTr (t : List Int) : Bool := decide (1 ≤ t.length) && decide (t.length ≤ 8) && decide (t.getD 0 0 = -1) && (List.range t.length).all fun i => decide (i = 0) || decide (0 ≤ t.getD i 0 ∧ t.getD i 0 < i)
theorem isTr_iff (t : List Int) : isTr t = true ↔ Tree t := by
  unfold isTr
  simp only [Bool.and_eq_true, decide_eq_true_eq, List.all_eq_true, List.mem_range, Bool.or_eq_true]
  constructor
  · rintro ⟨⟨⟨h1, h2⟩, h3⟩, h4⟩
    exact ⟨h1, h2, h3, fun i hi hl => (h4 i hl).resolve_left (by omega)⟩
  · rintro ⟨h1, h2, h3, h4⟩
    refine ⟨⟨⟨h1, h2⟩, h3⟩, fun i hl => ?_⟩
    by_cases e : i = 0
    · exact .inl e
    · exact .inr (h4 i (by omega) hl)
theorem isTr_yes {t : List Int} (h : Tree t) : isTr t = true := (isTr_iff t).2 h
theorem isTr_no {t : List Int} (h : ¬ Tree t) : isTr t = false := by
  cases e : isTr t with
  | false => rfl
  | true => exact absurd ((isTr_iff t).1 e) h
def isWid (x : Int) : Bool := decide (1 ≤ x ∧ x ≤ 1000)
theorem tree_get {t : List Int} {k : Nat} (hk : k < t.length) : t.getD k 0 = t[k] := by simp [List.getD, List.getElem?_eq_getElem hk]
end Go.Proofs.Ytpglbakcjihohab

/-! The document's Begin: a store with no items, for every tree and width. -/
namespace Go.Proofs.Ytpglbakcjihohab
open Go.RowKit
set_option maxRecDepth 100000

def NdC.zero : NdC := ⟨LfC.zero, LfC.zero, ⟨none, 0, 0⟩, ⟨none, 0, 0⟩⟩
def Nd.zero : Nd := ⟨[], fun _ => false, 0, [], fun _ => false, 0, [], []⟩
theorem begin_app {w w2 : World} {X : Array Value} {gb n cb : Nat} {te : TypeId} (g : (w.alloc (.cells X te)).grownBy w2 (Value.ownBlock (.slice none 0 0))) (t1 : Value.ownBlock (.slice (some ⟨gb, 0, none⟩) n cb) = Value.ownBlock (.slice none 0 0) ∨ Value.ownBlock (.slice (some ⟨gb, 0, none⟩) n cb) = some (w.alloc (.cells X te)).heap.size ∧ (w.alloc (.cells X te)).grownBy w2 none) :
    w2.heap[w.heap.size]? = some (.cells X te) ∧ Below w.heap.size w w2 ∧ w.heap.size < w2.heap.size ∧ gb = w.heap.size + 1 := by
  have h1 := below_alloc w (.cells X te)
  have hs := g.size
  refine ⟨?_, h1.trans (grown_below g _ h1.size (fun _ h => by cases h)), by simp at hs; omega, ?_⟩
  · rw [g.block _ (by simp) (by simp [Value.ownBlock])]; exact heap_alloc_new _ _
  · rcases t1 with h | ⟨h, _⟩
    · cases h
    · simpa [Value.ownBlock] using h
theorem begin_mk {w w2 w3 : World} {a b c v : Value} {te : TypeId} (m2 : w2.heap[w.heap.size]? = some (.cells #[a, b, c] te)) (g : (w2.setCell ⟨w.heap.size, 0, none⟩ v).grownBy w3 none) (s : w.heap.size < w2.heap.size) : w3.heap[w.heap.size]? = some (.cells #[v, b, c] te) := by
  rw [g.block _ (by simpa using s) (by simp), heap_setCell_same _ _ _ _ _ _ m2]; rfl
end Go.Proofs.Ytpglbakcjihohab

/-! 'ahead' and 'newer', for every two items. -/
namespace Go.Proofs.Ytpglbakcjihohab
open Go.RowKit
set_option maxRecDepth 100000

def ahd (x y : It) : Bool := decide (x.leaf < y.leaf ∨ x.leaf = y.leaf ∧ x.win < y.win)
def nwr (x y : It) : Bool := decide (y.ver < x.ver) || (decide (x.ver = y.ver) && x.fin && !y.fin)
end Go.Proofs.Ytpglbakcjihohab

/-! 'joined': the items with one more, for every list and item. -/
namespace Go.Proofs.Ytpglbakcjihohab
open Go.RowKit
set_option maxRecDepth 100000

/-- One step over the old items: what was laid out, and whether the item stands there. -/
def jst (x : It) (s : List It × Bool) (y : It) : List It × Bool :=
  ((if (ahd x y && !s.2) = true then s.1 ++ [x] else s.1) ++ [if y.leaf = x.leaf ∧ y.win = x.win then (if nwr x y = true then x else y) else y],
   s.2 || ahd x y || decide (y.leaf = x.leaf ∧ y.win = x.win))
def jgo (x : It) (l : List It) : List It × Bool := l.foldl (jst x) ([], false)
def jnd (l : List It) (x : It) : List It := if (jgo x l).2 = true then (jgo x l).1 else (jgo x l).1 ++ [x]
theorem jgo_take (x : It) (l : List It) (k : Nat) (y : It) (h : l[k]? = some y) : jgo x (l.take (k + 1)) = jst x (jgo x (l.take k)) y := by
  unfold jgo; rw [List.take_add_one, h]; simp
theorem jgo_len (x : It) (l : List It) : (jgo x l).1.length ≤ l.length + (jgo x l).2.toNat := by
  suffices H : ∀ (l : List It) (s : List It × Bool) (m : Nat), s.1.length ≤ m + s.2.toNat → (l.foldl (jst x) s).1.length ≤ m + l.length + (l.foldl (jst x) s).2.toNat by
    have := H l ([], false) 0 (by simp); simpa [jgo] using this
  intro l
  induction l with
  | nil => intro s m h; simpa using h
  | cons y l ih =>
    intro s m h
    have := ih (jst x s y) (m + 1) (by
      obtain ⟨o, b⟩ := s
      simp only [jst]
      cases b <;> cases ahd x y <;> by_cases hk : y.leaf = x.leaf ∧ y.win = x.win <;> simp [hk] at h ⊢ <;> omega)
    simp only [List.foldl_cons, List.length_cons]
    rw [show m + (l.length + 1) = m + 1 + l.length by omega]
    exact this
/-- What 'joined' has in memory: the item, boxed; the old items; the new ones. -/
structure JW (w wr : World) (X : Array Value) (p : Option Addr) (l : List It) (v : Value) (o : List It) : Prop where
  below : Below w.heap.size w wr
  x : wr.heap[w.heap.size]? = some (.cells X 80)
  rows : RowsAt clIt wr p l
  own : Own clIt wr (w.heap.size + 1) 80 v o
theorem JW.next {w wr w' : World} {X : Array Value} {p : Option Addr} {l o : List It} {v : Value} (h : JW w wr X p l v o) (hb : Below wr.heap.size wr w') : JW w w' X p l v o :=
  ⟨bnext h.below hb, keep hb h.x, h.rows.below hb, h.own.below hb⟩
theorem JW.row {w wr : World} {X Y : Array Value} {p : Option Addr} {l o : List It} {v : Value} (h : JW w wr X p l v o) (hp : RowsAt clIt w p l) (g : Nat) (hg : w.heap.size < g) (hv : v.ownBlock ≠ some g) : JW w (wr.setRow g Y) X p l v o := by
  have hb := below_setRow (w := w) Y h.below (Nat.le_of_lt hg)
  exact ⟨hb, setRow_oth (by omega) h.x, hp.below hb, h.own.chg fun j hj => setRow_other _ _ _ _ (fun e => hv (by rw [hj, e]))⟩
theorem JW.app {w wr w' : World} {X : Array Value} {p : Option Addr} {l o o' : List It} {v v' : Value} (h : JW w wr X p l v o) (hp : RowsAt clIt w p l) (ho : Own clIt w' (w.heap.size + 1) 80 v' o') (hg : wr.grownBy w' v.ownBlock) : JW w w' X p l v' o' := by
  have hb : Below w.heap.size w w' := h.below.trans (grown_below hg _ h.below.size (fun k hk => by have := (h.own.lt k hk).1; omega))
  exact ⟨hb, by rw [hg.block _ (lt_of_blk h.x) (fun e => by have := (h.own.lt _ e.symm).1; omega)]; exact h.x, hp.below hb, ho⟩
theorem join_far {w1 w2 : World} {gy : Nat} {Y : Array Value} {t : TypeId} {o : Obj} {v v1 : Value} (hg : w1.heap[gy]? = some (.cells Y t)) (hv : v.ownBlock ≠ some gy) (t1 : v1.ownBlock = v.ownBlock ∨ v1.ownBlock = some (w1.alloc o).heap.size ∧ (w1.alloc o).grownBy w2 none) : v1.ownBlock ≠ some gy := fun e => by
  rcases t1 with h | ⟨h, _⟩
  · rw [h] at e; exact hv e
  · rw [h] at e; have := Option.some.inj e; have := lt_of_blk hg; simp at *; omega
end Go.Proofs.Ytpglbakcjihohab

/-! Plain facts of sorted items: how many there can be, what is joined, laid in, found; what a leaf knows behind an event or an advance. -/
namespace Go.Proofs.Ytpglbakcjihohab
open Go.RowKit

def Srt (l : List It) : Prop := l.Pairwise fun x y => ahd x y = true
def InB (l : List It) : Prop := ∀ x ∈ l, 0 ≤ x.leaf ∧ x.leaf < 8 ∧ 0 ≤ x.win ∧ x.win < 20
theorem ahd_iff {x y : It} : ahd x y = true ↔ x.leaf < y.leaf ∨ x.leaf = y.leaf ∧ x.win < y.win := by simp [ahd]
theorem ahd_trans {x y z : It} (h : ahd x y = true) (k : ahd y z = true) : ahd x z = true := by rw [ahd_iff] at *; omega
theorem srt_len (l : List It) (hs : Srt l) (hb : InB l) : l.length ≤ 160 := by
  suffices H : ∀ (l : List It) (a : Nat), Srt l → InB l → (∀ x ∈ l, (a : Int) ≤ x.leaf * 20 + x.win) → a ≤ 160 → l.length + a ≤ 160 by
    have := H l 0 hs hb (fun x hx => by have := hb x hx; simp; omega) (by omega); omega
  intro l
  induction l with
  | nil => intro a _ _ _ h; simpa using h
  | cons x l ih =>
    intro a hs hb ha _
    have hx := hb x (by simp)
    have h0 := ha x (by simp)
    have hp := List.pairwise_cons.1 hs
    have := ih (x.leaf * 20 + x.win + 1).toNat hp.2 (fun y hy => hb y (by simp [hy])) (fun y hy => by
      have h1 := ahd_iff.1 (hp.1 y hy)
      have h2 := hb y (by simp [hy])
      omega) (by omega)
    simp only [List.length_cons]
    omega

/-! ### To join -/
def jin (x : It) : List It → List It
  | [] => [x]
  | y :: l => if ahd x y = true then x :: y :: l else if y.leaf = x.leaf ∧ y.win = x.win then (if nwr x y = true then x else y) :: l else y :: jin x l
theorem jst_rest (x : It) : ∀ (l o : List It), (∀ y ∈ l, ¬ (y.leaf = x.leaf ∧ y.win = x.win)) → l.foldl (jst x) (o, true) = (o ++ l, true) := by
  intro l
  induction l with
  | nil => intro o _; simp
  | cons y l ih =>
    intro o h
    have hy := h y (by simp)
    have e : jst x (o, true) y = (o ++ [y], true) := by simp [jst, hy]
    rw [List.foldl_cons, e, ih _ fun z hz => h z (by simp [hz])]
    simp
theorem jnd_jin (x : It) (l : List It) (hs : Srt l) : jnd l x = jin x l := by
  suffices H : ∀ (l o : List It), Srt l → (if (l.foldl (jst x) (o, false)).2 = true then (l.foldl (jst x) (o, false)).1 else (l.foldl (jst x) (o, false)).1 ++ [x]) = o ++ jin x l by
    have := H l [] hs; rw [List.nil_append] at this; exact this
  intro l
  induction l with
  | nil => intro o _; simp [jin]
  | cons y l ih =>
    intro o hs
    have hp := List.pairwise_cons.1 hs
    rw [List.foldl_cons]
    by_cases h1 : ahd x y = true
    · have hne : ¬ (y.leaf = x.leaf ∧ y.win = x.win) := by rw [ahd_iff] at h1; omega
      have e : jst x (o, false) y = (o ++ [x] ++ [y], true) := by simp [jst, h1, hne]
      rw [e, jst_rest x l _ fun z hz => by
        have := ahd_iff.1 (ahd_trans h1 (hp.1 z hz)); omega]
      simp [jin, h1]
    · have h1' : ahd x y = false := by simpa using h1
      by_cases h2 : y.leaf = x.leaf ∧ y.win = x.win
      · have e : jst x (o, false) y = (o ++ [if nwr x y = true then x else y], true) := by simp [jst, h1', h2]
        rw [e, jst_rest x l _ fun z hz => by
          have := ahd_iff.1 (hp.1 z hz); omega]
        simp [jin, h1', h2]
      · have e : jst x (o, false) y = (o ++ [y], false) := by simp [jst, h1', h2]
        rw [e, ih _ hp.2]
        simp [jin, h1', h2]
theorem mem_jin (x : It) (l : List It) (z : It) (h : z ∈ jin x l) : z = x ∨ z ∈ l := by
  induction l with
  | nil => simpa [jin] using h
  | cons y l ih =>
    simp only [jin] at h
    split at h
    · simpa using h
    · split at h
      · split at h <;> simp at h ⊢ <;> grind
      · simp at h ⊢
        rcases h with h | h
        · exact .inr (.inl h)
        · rcases ih h with h | h
          · exact .inl h
          · exact .inr (.inr h)
theorem ahd_lr {x x' y : It} (h1 : x.leaf = x'.leaf) (h2 : x.win = x'.win) : ahd x y = ahd x' y := by unfold ahd; rw [h1, h2]
theorem ahd_rl {x x' y : It} (h1 : x.leaf = x'.leaf) (h2 : x.win = x'.win) : ahd y x = ahd y x' := by unfold ahd; rw [h1, h2]
theorem srt_jin (x : It) (l : List It) (hs : Srt l) : Srt (jin x l) := by
  induction l with
  | nil => simp [jin, Srt]
  | cons y l ih =>
    have hp := List.pairwise_cons.1 hs
    simp only [jin]
    split
    · rename_i h1
      refine List.pairwise_cons.2 ⟨fun z hz => ?_, hs⟩
      rcases List.mem_cons.1 hz with rfl | hz
      · exact h1
      · exact ahd_trans h1 (hp.1 z hz)
    · rename_i h1
      split
      · rename_i h2
        refine List.pairwise_cons.2 ⟨fun z hz => ?_, hp.2⟩
        split
        · rw [← ahd_lr (x := y) h2.1 h2.2]; exact hp.1 z hz
        · exact hp.1 z hz
      · rename_i h2
        refine List.pairwise_cons.2 ⟨fun z hz => ?_, ih hp.2⟩
        rcases mem_jin x l z hz with rfl | hz
        · rw [ahd_iff] at *; omega
        · exact hp.1 z hz
theorem srt_jnd (x : It) (l : List It) (hs : Srt l) : Srt (jnd l x) := by rw [jnd_jin x l hs]; exact srt_jin x l hs
theorem inB_jnd (x : It) (l : List It) (hs : Srt l) (hb : InB l) (hx : 0 ≤ x.leaf ∧ x.leaf < 8 ∧ 0 ≤ x.win ∧ x.win < 20) : InB (jnd l x) := fun z hz => by
  rw [jnd_jin x l hs] at hz
  rcases mem_jin x l z hz with rfl | h
  · exact hx
  · exact hb z h
theorem mem_jnd (x : It) (l : List It) (hs : Srt l) (z : It) (h : z ∈ jnd l x) : z = x ∨ z ∈ l := by rw [jnd_jin x l hs] at h; exact mem_jin x l z h
def AllIn (xs : List It) : Prop := ∀ x ∈ xs, x.Ok ∧ 0 ≤ x.leaf ∧ x.leaf < 8 ∧ 0 ≤ x.win ∧ x.win < 20
/-- A list of items as a node keeps it. -/
structure Good (l : List It) : Prop where
  srt : Srt l
  inb : InB l
  ok : AllOkI l
theorem AllOkI.mem {l : List It} (h : AllOkI l) {x : It} (hx : x ∈ l) : x.Ok := by obtain ⟨i, hi⟩ := List.getElem?_of_mem hx; exact h i x hi
theorem allOkI_of {l : List It} (h : ∀ x ∈ l, x.Ok) : AllOkI l := fun _ x hx => h x (List.mem_of_getElem? hx)
theorem Good.nil : Good [] := ⟨List.Pairwise.nil, fun x hx => by simp at hx, fun i x hx => by simp at hx⟩
theorem Good.len {l : List It} (h : Good l) : l.length ≤ 160 := srt_len l h.srt h.inb
theorem Good.jnd {l : List It} (h : Good l) {x : It} (hx : x.Ok ∧ 0 ≤ x.leaf ∧ x.leaf < 8 ∧ 0 ≤ x.win ∧ x.win < 20) : Good (jnd l x) :=
  ⟨srt_jnd x l h.srt, inB_jnd x l h.srt h.inb hx.2, allOkI_of fun z hz => by
    rcases mem_jnd x l h.srt z hz with rfl | h1
    · exact hx.1
    · exact h.ok.mem h1⟩
theorem Good.dlv {l xs : List It} (h : Good l) (hx : AllIn xs) : Good (xs.foldl Go.Proofs.Ytpglbakcjihohab.jnd l) := by
  induction xs generalizing l with
  | nil => exact h
  | cons x xs ih => exact ih (h.jnd (hx x (by simp))) fun y hy => hx y (by simp [hy])
theorem AllIn.take {xs : List It} (h : AllIn xs) (k : Nat) : AllIn (xs.take k) := fun x hx => h x (List.mem_of_mem_take hx)
theorem dlv_take (xs l : List It) (k : Nat) (x : It) (h : xs[k]? = some x) : (xs.take (k + 1)).foldl jnd l = jnd ((xs.take k).foldl jnd l) x := by
  rw [List.take_add_one, h]; simp
/-! ### To lay in, to find -/
def pin (x : It) : List It → List It
  | [] => [x]
  | y :: l => if ahd y x = true then y :: pin x l else if y.leaf = x.leaf ∧ y.win = x.win then x :: l else x :: y :: l
def newIt (lf wn : Int) : It := ⟨lf, wn, 0, false, Sk.empty⟩
def itm (lf wn : Int) : List It → It
  | [] => newIt lf wn
  | y :: l => if y.leaf < lf ∨ y.leaf = lf ∧ y.win < wn then itm lf wn l else if y.leaf = lf ∧ y.win = wn then y else newIt lf wn
theorem pin_ahead (x : It) (l r : List It) (h : ∀ y ∈ l, ahd y x = true) : pin x (l ++ r) = l ++ pin x r := by
  induction l with
  | nil => rfl
  | cons y l ih => simp [pin, h y (by simp), ih fun z hz => h z (by simp [hz])]
theorem itm_ahead (x : It) (l r : List It) (h : ∀ y ∈ l, ahd y x = true) : itm x.leaf x.win (l ++ r) = itm x.leaf x.win r := by
  induction l with
  | nil => rfl
  | cons y l ih =>
    have := ahd_iff.1 (h y (by simp))
    simp [itm, this, ih fun z hz => h z (by simp [hz])]
theorem pin_behind (x : It) (l : List It) (h : ∀ y ∈ l, ahd x y = true) : pin x l = x :: l := by
  cases l with
  | nil => rfl
  | cons y l =>
    have := ahd_iff.1 (h y (by simp))
    have h1 : ¬ ahd y x = true := by rw [ahd_iff]; omega
    have h2 : ¬ (y.leaf = x.leaf ∧ y.win = x.win) := by omega
    simp [pin, h1, h2]
theorem itm_behind (x : It) (l : List It) (h : ∀ y ∈ l, ahd x y = true) : itm x.leaf x.win l = newIt x.leaf x.win := by
  cases l with
  | nil => rfl
  | cons y l =>
    have := ahd_iff.1 (h y (by simp))
    have h1 : ¬ (y.leaf < x.leaf ∨ y.leaf = x.leaf ∧ y.win < x.win) := by omega
    have h2 : ¬ (y.leaf = x.leaf ∧ y.win = x.win) := by omega
    simp [itm, h1, h2]
/-- The windows ahead of j, it, and those behind it. -/
theorem range_split (j m : Nat) (h : j < m) : List.range m = List.range j ++ ([j] ++ List.range' (j + 1) (m - (j + 1))) := by
  obtain ⟨d, rfl⟩ : ∃ d, m = j + (1 + d) := ⟨m - (j + 1), by omega⟩
  rw [show j + (1 + d) - (j + 1) = d by omega, List.range_eq_range', ← List.range'_append_1, List.range_eq_range', ← List.range'_append_1]
  simp
theorem known_split (n : Int) (l : List Ev3) (cl : Nat → Bool) (j : Nat) (h : j < 20) :
    known n l cl = ((List.range j).filter (has l cl)).map (itOf n l cl) ++ ((if has l cl j = true then [itOf n l cl j] else []) ++ ((List.range' (j + 1) (20 - (j + 1))).filter (has l cl)).map (itOf n l cl)) := by
  unfold known knownTo
  rw [range_split j 20 h, List.filter_append, List.filter_append, List.map_append, List.map_append]
  congr 2
  by_cases hj : has l cl j = true <;> simp [hj]
theorem known_low (n : Int) (l : List Ev3) (cl : Nat → Bool) (j : Nat) (x : It) (h1 : x.leaf = n) (h2 : x.win = j) : ∀ y ∈ ((List.range j).filter (has l cl)).map (itOf n l cl), ahd y x = true := fun y hy => by
  simp only [List.mem_map, List.mem_filter, List.mem_range] at hy
  obtain ⟨k, ⟨hk, _⟩, rfl⟩ := hy
  rw [ahd_iff]; right
  exact ⟨h1.symm, by rw [h2]; show (k : Int) < j; omega⟩
theorem known_high (n : Int) (l : List Ev3) (cl : Nat → Bool) (j m : Nat) (x : It) (h1 : x.leaf = n) (h2 : x.win = j) : ∀ y ∈ ((List.range' (j + 1) m).filter (has l cl)).map (itOf n l cl), ahd x y = true := fun y hy => by
  simp only [List.mem_map, List.mem_filter, List.mem_range'] at hy
  obtain ⟨k, ⟨⟨i, _, rfl⟩, _⟩, rfl⟩ := hy
  rw [ahd_iff]; right
  exact ⟨h1, by rw [h2]; show (j : Int) < ((j + 1 + 1 * i : Nat) : Int); omega⟩
theorem known_itm (n : Int) (l : List Ev3) (cl : Nat → Bool) (j : Nat) (h : j < 20) : itm n j (known n l cl) = ⟨n, j, ((evK l j).length : Int), cl j, skOf (evK l j)⟩ := by
  rw [known_split n l cl j h]
  have e1 := itm_ahead (newIt n j) _ ((if has l cl j = true then [itOf n l cl j] else []) ++ ((List.range' (j + 1) (20 - (j + 1))).filter (has l cl)).map (itOf n l cl)) (known_low n l cl j (newIt n j) rfl rfl)
  simp only [newIt] at e1
  rw [e1]
  by_cases hj : has l cl j = true
  · rw [if_pos hj]
    simp [itm, itOf]
  · rw [if_neg hj, List.nil_append]
    have e2 := itm_behind (newIt n j) _ (known_high n l cl j (20 - (j + 1)) (newIt n j) rfl rfl)
    simp only [newIt] at e2
    rw [e2]
    simp only [has, Bool.or_eq_true, decide_eq_true_eq, not_or] at hj
    have h0 : evK l j = [] := List.eq_nil_of_length_eq_zero (by omega)
    have h1 : cl j = false := by simpa using hj.2
    simp [h0, h1, skOf]
theorem known_pin (n : Int) (l l' : List Ev3) (cl cl' : Nat → Bool) (j : Nat) (h : j < 20) (he : ∀ k : Nat, k < 20 → k ≠ j → evK l' k = evK l k ∧ cl' k = cl k) (hj : has l' cl' j = true) :
    known n l' cl' = pin (itOf n l' cl' j) (known n l cl) := by
  rw [known_split n l cl j h, known_split n l' cl' j h, pin_ahead _ _ _ (known_low n l cl j (itOf n l' cl' j) rfl rfl), if_pos hj]
  have low : ((List.range j).filter (has l' cl')).map (itOf n l' cl') = ((List.range j).filter (has l cl)).map (itOf n l cl) := by
    have : (List.range j).filter (has l' cl') = (List.range j).filter (has l cl) := List.filter_congr fun k hk => by
      have hk := List.mem_range.1 hk
      obtain ⟨e1, e2⟩ := he k (by omega) (by omega)
      simp [has, e1, e2]
    rw [this]
    refine List.map_congr_left fun k hk => ?_
    have hk := List.mem_range.1 (List.mem_filter.1 hk).1
    obtain ⟨e1, e2⟩ := he k (by omega) (by omega)
    simp [itOf, e1, e2]
  have high : ((List.range' (j + 1) (20 - (j + 1))).filter (has l' cl')).map (itOf n l' cl') = ((List.range' (j + 1) (20 - (j + 1))).filter (has l cl)).map (itOf n l cl) := by
    have : (List.range' (j + 1) (20 - (j + 1))).filter (has l' cl') = (List.range' (j + 1) (20 - (j + 1))).filter (has l cl) := List.filter_congr fun k hk => by
      obtain ⟨i, hi, rfl⟩ := List.mem_range'.1 hk
      obtain ⟨e1, e2⟩ := he (j + 1 + 1 * i) (by omega) (by omega)
      unfold has; rw [e1, e2]
    rw [this]
    refine List.map_congr_left fun k hk => ?_
    obtain ⟨i, hi, rfl⟩ := List.mem_range'.1 (List.mem_filter.1 hk).1
    obtain ⟨e1, e2⟩ := he (j + 1 + 1 * i) (by omega) (by omega)
    unfold itOf; rw [e1, e2]
  rw [low, high]
  congr 1
  by_cases h0 : has l cl j = true
  · rw [if_pos h0]
    have : ¬ ahd (itOf n l cl j) (itOf n l' cl' j) = true := by rw [ahd_iff]; simp [itOf]
    simp [pin, this]
    simp [itOf]
  · rw [if_neg h0, List.nil_append, pin_behind _ _ (known_high n l cl j _ _ rfl rfl)]
    simp
theorem evK_add (l : List Ev3) (e : Ev3) (k : Int) : evK (l ++ [e]) k = evK l k ++ (if e.win = k then [e] else []) := by
  unfold evK; rw [List.filter_append]
  by_cases h : e.win = k <;> simp [h]
/-- An event more. -/
theorem known_add (n : Int) (l : List Ev3) (cl : Nat → Bool) (e : Ev3) (j : Nat) (hj : j < 20) (hw : e.win = j) :
    known n (l ++ [e]) cl = pin { itm n j (known n l cl) with ver := (itm n j (known n l cl)).ver + 1, sk := mrg (itm n j (known n l cl)).sk (one e.key.data.toList e.v) } (known n l cl) := by
  rw [known_itm n l cl j hj, known_pin n l (l ++ [e]) cl cl j hj (fun k _ hk => ⟨by rw [evK_add, if_neg (by rw [hw]; omega)]; simp, rfl⟩) (by rw [has, evK_add, if_pos hw]; simp)]
  congr 1
  simp only [itOf]
  rw [evK_add, if_pos hw, skOf_append]
  simp
/-- A window that is closed. -/
theorem known_close (n : Int) (l : List Ev3) (cl : Nat → Bool) (j : Nat) (hj : j < 20) :
    known n l (fun i => if i = j then true else cl i) = pin { itm n j (known n l cl) with fin := true } (known n l cl) := by
  rw [known_itm n l cl j hj, known_pin n l l cl (fun i => if i = j then true else cl i) j hj (fun k _ hk => ⟨rfl, by simp [hk]⟩) (by simp [has])]
  congr 1
  simp [itOf]
theorem known_good (n : Int) (l : List Ev3) (cl : Nat → Bool) (hn0 : 0 ≤ n) (hn : n < 8) (hl : EvOk l) (hm : l.length ≤ 1000000000) : Good (known n l cl) := by
  refine ⟨?_, fun x hx => ?_, allOkI_of fun x hx => ?_⟩
  · unfold Srt known knownTo
    refine List.Pairwise.map _ (fun a b (h : a < b) => ?_) (List.Pairwise.filter _ List.pairwise_lt_range)
    rw [ahd_iff]; right; exact ⟨rfl, by show (a : Int) < b; omega⟩
  · simp only [known, knownTo, List.mem_map, List.mem_filter, List.mem_range] at hx
    obtain ⟨k, ⟨hk, _⟩, rfl⟩ := hx
    exact ⟨hn0, hn, by show (0 : Int) ≤ k; omega, by show (k : Int) < 20; omega⟩
  · simp only [known, knownTo, List.mem_map, List.mem_filter, List.mem_range] at hx
    obtain ⟨k, ⟨hk, _⟩, rfl⟩ := hx
    exact itOf_ok hl n ⟨by omega, by omega⟩ cl k hk hm
end Go.Proofs.Ytpglbakcjihohab

/-! Whole things made, stored, appended in regions whose order is open. -/
namespace Go.Proofs.Ytpglbakcjihohab
open Go.RowKit
set_option maxRecDepth 100000

section
variable {ops : Array Oper} {rest : List Oper} {i : Nat} {o : Oper} {a : Act} {w : World} {Q : Exit → Act → World → Prop} {K : Act → World → Prop} {S : World → Prop}
theorem wpOp_alloc_z (hi : ops[i]? = some o) (hg : o.guard = none) (t : TypeId) (ho : o.op = .alloc t) (z : Array Value) (hz : (Try.prog.info? t).bind (·.zero) = some (.agg z))
    (h : K (a.put o.dst (.pointer (some ⟨w.heap.size, 0, none⟩))) (w.alloc (.cells z t))) : wpOp Try.prog ops Q i K a w :=
  wpOp_of_wp hi hg (by
    have hz' : (zeroValue t).run Try.prog w = .ok (.agg z) w := by
      cases hq : Try.prog.info? t with
      | none => simp [hq] at hz
      | some i => simp [hq] at hz; simp [zeroValue, typeInfo, hq, hz]
    unfold Oper.wp execOp
    simp only [ho, Instr.alloc, Sem.run_bind, hz', Result.andThen_ok, newVar, newRow, newObj, Sem.run_pure]
    exact h)
theorem wpOp_store_row {c : Array Value} {g : Nat} (hi : ops[i]? = some o) (hg : o.guard = none) (t : TypeId) (x y : Operand) (ho : o.op = .store t x y) (A : Array Value)
    (hx : a.eval x = .pointer (some ⟨g, 0, none⟩)) (hy : a.eval y = .agg A) (hgg : w.heap[g]? = some (.cells c t)) (hA : (Try.prog.info? t).map (·.size) = some A.size) (hc : c.size = A.size) (h1 : A.all (·.oneCell') = true)
    (h : K (a.put o.dst undef) (w.setRow g A)) : wpOp Try.prog ops Q i K a w :=
  wpOp_of_wp hi hg (wp_store_row _ x y ho g A hx hy _ c hgg hA hc h1 h)
theorem wpOp_build_z (hi : ops[i]? = some o) (hg : o.guard = none) (t : TypeId) (parts : Array (Nat × Operand)) (ho : o.op = .build t parts) (z : Array Value)
    (hz : Try.prog.built t (parts.map fun (i, x) => (i, a.eval x)).toList = some z) (h : K (a.put o.dst (.agg z)) w) : wpOp Try.prog ops Q i K a w :=
  wpOp_of_wp hi hg (by
    have hw := wp_build (P := Try.prog) (o := o) (a := a) (w := w) (K := K) (Q := Q) t parts ho (by rw [hz]; rfl) (by rw [hz]; exact h)
    exact hw)
theorem wpOp_build1_cl {α : Type} {C : Cl α} {t e : TypeId} {bytes : Nat} (T : SlT Try.prog C t e bytes) (hi : ops[i]? = some o) (hg : o.guard = none) (x : Operand) (ho : o.op = .buildSlice t 1 #[(0, x)]) (y : α) (v : Value) (hx : a.eval x = v) (hv : v.cells.toList = C.cells y) (hsm : C.size ≤ 2 ^ 24)
    (h : RowsAt C (w.alloc (.cells (flat C [y]).toArray e)) (some ⟨w.heap.size, 0, none⟩) [y] → K (a.put o.dst (.slice (some ⟨w.heap.size, 0, none⟩) 1 1)) (w.alloc (.cells (flat C [y]).toArray e))) : wpOp Try.prog ops Q i K a w :=
  wpOp_of_wp hi hg (by
    obtain ⟨ie, z, h1, h2, h3, h4, h5⟩ := T.get
    have hvs : v.cells.size = C.size := by have := congrArg List.length hv; rw [Cl.len] at this; simpa using this
    have hf := Great.fill_whole (s := C.size) Cl.pos [v] ((Array.range (1 * C.size)).map (z.cells[· % z.cells.size]!)) (by simpa using hvs) (by simp)
    have hfl : ([v].flatMap fun v => v.cells.toList) = flat C [y] := by simp [flat, hv]
    rw [hfl] at hf
    refine wp_buildSlice _ _ 1 _ ho (flat C [y]).toArray ie z T.und h1 h2 (by rw [h3]; have := Cl.pos (C := C); omega) (by rw [h3]; have := Cl.pos (C := C); simp; omega) (by rw [h3]; simp only [hx, List.map_toArray, List.map_cons, List.map_nil]; exact hf) ?_
    refine h (.inr ⟨w.heap.size, 0, rfl, by simp, fun j y' hy' i u hu => ?_⟩)
    rw [cell_of_row _ _ _ _ _ _ (heap_alloc_new w _)]
    have hj : i < C.size := by rw [← Cl.len y']; exact (List.getElem?_eq_some_iff.1 hu).1
    have := flat_get [y] j y' hy' i hj
    rw [hu] at this
    rw [Nat.zero_add]; simpa using this)
theorem wpOp_append_cl {α : Type} {C : Cl α} {t e : TypeId} {bytes : Nat} (T : SlT Try.prog C t e bytes) (hi : ops[i]? = some o) (hg : o.guard = none) (s x : Operand) (ho : o.op = .call { callee := .builtin .append, args := #[s, x], argTypes := #[t, t] }) (base : Nat) (v : Value) (l : List α) (hs : a.eval s = v) (hown : Own C w base e v l)
    (p : Option Addr) (m c : Nat) (ms : List α) (hx : a.eval x = .slice p m c) (hm : ms.length = m) (hr : RowsAt C w p ms) (hpos : 0 < m) (h63 : l.length + m ≤ maxLen) (hby : (l.length + m) * bytes ≤ 140737488355328) (hbase : base ≤ w.heap.size)
    (h : ∀ v' w', Own C w' base e v' (l ++ ms) → w.grownBy w' v.ownBlock → (v'.ownBlock = v.ownBlock ∨ v'.ownBlock = some w.heap.size) → (∃ g cap, v' = .slice (some ⟨g, 0, none⟩) (l ++ ms).length cap) → K (a.put o.dst v') w') : wpOp Try.prog ops Q i K a w :=
  wpOp_of_wp hi hg (by
    obtain ⟨v', w', hr, h6, _, h7, h8, h9⟩ := run_append_cl T o.type w base v l hown p m c ms hm hr hpos h63 hby hbase
    unfold Oper.wp execOp
    simp only [ho, resolve, invoke, builtin, Sem.run_bind, Sem.run_pure, Result.andThen_ok, List.map_toArray, List.map_cons, List.map_nil, hs, hx, hr]
    exact h v' w' h6 h7 (by rcases h8 with h8 | h8; exact .inl h8; exact .inr h8.1) h9)
end
end Go.Proofs.Ytpglbakcjihohab

/-! The program's ledger: where an item stands, which it is, whether it is Final; which items of some windows there are. -/
namespace Go.Proofs.Ytpglbakcjihohab
open Go.RowKit
set_option maxRecDepth 100000

def ahk (x : It) (lf wn : Int) : Bool := decide (x.leaf < lf ∨ x.leaf = lf ∧ x.win < wn)
def plc (lf wn : Int) : List It → Nat
  | [] => 0
  | y :: l => if ahk y lf wn = true then plc lf wn l + 1 else 0
def atk (lf wn : Int) (l : List It) (i : Nat) : Bool := ((l[i]?).map fun y => decide (y.leaf = lf ∧ y.win = wn)).getD false
theorem plc_le (lf wn : Int) (l : List It) : plc lf wn l ≤ l.length := by
  induction l with
  | nil => simp [plc]
  | cons y l ih => simp only [plc]; split <;> simp; exact ih
theorem plc_drop_yes (lf wn : Int) (l : List It) (k : Nat) (y : It) (hy : l[k]? = some y) (h : ahk y lf wn = true) : plc lf wn (l.drop k) = plc lf wn (l.drop (k + 1)) + 1 := by
  obtain ⟨hk, e⟩ := List.getElem?_eq_some_iff.1 hy
  rw [List.drop_eq_getElem_cons hk, e]; simp [plc, h]
theorem plc_drop_no (lf wn : Int) (l : List It) (k : Nat) (y : It) (hy : l[k]? = some y) (h : ahk y lf wn = false) : plc lf wn (l.drop k) = 0 := by
  obtain ⟨hk, e⟩ := List.getElem?_eq_some_iff.1 hy
  rw [List.drop_eq_getElem_cons hk, e]; simp [plc, h]
theorem itm_plc (lf wn : Int) (l : List It) : itm lf wn l = if atk lf wn l (plc lf wn l) = true then (l[plc lf wn l]?).getD It.zero else newIt lf wn := by
  induction l with
  | nil => simp [itm, plc, atk]
  | cons y l ih =>
    by_cases h : ahk y lf wn = true
    · have h' : y.leaf < lf ∨ y.leaf = lf ∧ y.win < wn := by simpa [ahk] using h
      have e : plc lf wn (y :: l) = plc lf wn l + 1 := by simp [plc, h]
      rw [e]
      simp only [itm, if_pos h', atk, List.getElem?_cons_succ]
      exact ih
    · have h' : ¬ (y.leaf < lf ∨ y.leaf = lf ∧ y.win < wn) := by simpa [ahk] using h
      have e : plc lf wn (y :: l) = 0 := by simp [plc, h]
      rw [e]
      simp only [itm, if_neg h', atk, List.getElem?_cons_zero, Option.map_some, Option.getD_some, decide_eq_true_eq]
theorem pin_plc (x : It) (l : List It) : pin x l = if atk x.leaf x.win l (plc x.leaf x.win l) = true then l.set (plc x.leaf x.win l) x else l.take (plc x.leaf x.win l) ++ x :: l.drop (plc x.leaf x.win l) := by
  induction l with
  | nil => simp [pin, plc, atk]
  | cons y l ih =>
    by_cases h : ahd y x = true
    · have h1 : ahk y x.leaf x.win = true := by unfold ahd at h; unfold ahk; exact h
      have e : plc x.leaf x.win (y :: l) = plc x.leaf x.win l + 1 := by simp [plc, h1]
      rw [e]
      simp only [pin, if_pos h, atk, List.getElem?_cons_succ, List.set_cons_succ, List.take_succ_cons, List.drop_succ_cons, List.cons_append]
      rw [ih]
      unfold atk
      split <;> rfl
    · have h1 : ¬ ahk y x.leaf x.win = true := by unfold ahd at h; unfold ahk; exact h
      have e : plc x.leaf x.win (y :: l) = 0 := by simp [plc, h1]
      rw [e]
      simp only [pin, if_neg h, atk, List.getElem?_cons_zero, Option.map_some, Option.getD_some, decide_eq_true_eq, List.set_cons_zero, List.take_zero, List.drop_zero, List.nil_append]

theorem built_it5 (lf wn : Int) (s : Sk) : Try.prog.built 80 [(0, .int .i64 lf), (1, .int .i64 wn), (4, .agg s.cells)] = some (It.mk lf wn 0 false s).cells.toArray := by kernel_rfl
theorem built_it3' (lf wn : Int) {E : Array Value} {s : Sk} (hE : IsSk E s) : Try.prog.built 80 [(0, .int .i64 lf), (1, .int .i64 wn), (4, .agg E)] = some (It.mk lf wn 0 false s).cells.toArray := by rw [show E = s.cells from hE]; exact built_it5 lf wn s
section
variable {ops : Array Oper} {rest : List Oper} {o : Oper} {a : Act} {w : World} {Q : Exit → Act → World → Prop}
/-- An item out of the midst of a block, where a guard says yes. -/
theorem load_it_mid_g (hw : Region.wanted o (yielded ops a.tmps) = true) (x : Operand) (ho : o.op = .load 80 x) (g off : Nat) (hx : a.eval x = .pointer (some ⟨g, off, none⟩)) (s : It)
    (hg : w.rangeAt g off s.cells) (h : ∀ A, IsIt A s → wpList Try.prog ops Q rest (a.put o.dst (.agg A)) w) : wpList Try.prog ops Q (o :: rest) a w :=
  BigFrame.wpList_want hw fun K hK => by
    have hl := run_loadVar_mid (P := Try.prog) w g off 80 s.cells _ hg Try.underlying80 rfl (info_it' s)
    unfold Oper.wp execOp
    simp only [ho, hx, Instr.loadAt, Instr.sureAddr, Sem.run_bind, Sem.run_pure, Result.andThen_ok, hl]
    exact hK _ _ (h _ (isIt_of _))
end
structure LgR (w : World) (bs o : Nat) (p : Option Addr) (m c : Nat) (mk : Int) (l : List It) : Prop where
  c0 : w.cell? ⟨bs, o, none⟩ = some (.slice p m c)
  c1 : w.cell? ⟨bs, o + 1, none⟩ = some (.int .i64 mk)
  rows : RowsAt clIt w p l
  len : l.length = m
  small : m ≤ 1000000
theorem LgR.below {w w' : World} {bs o : Nat} {p : Option Addr} {m c : Nat} {mk : Int} {l : List It} (h : LgR w bs o p m c mk l) (hb : Below w.heap.size w w') : LgR w' bs o p m c mk l :=
  ⟨cell_keep hb h.c0, cell_keep hb h.c1, h.rows.below hb, h.len, h.small⟩
set_option maxHeartbeats 1000000 in
theorem isAhead_any (x : It) (A : Array Value) (hA : IsIt A x) (lf wn : Int) (w : World) :
    Calls Try.prog 50 #[.agg A, .int .i64 lf, .int .i64 wn] w fun e w' => e = .returned (.bool (ahk x lf wn)) ∧ Below w.heap.size w w' := by
  have a0 := hA.get0
  have a1 := hA.get1
  obtain ⟨xl, xw, xv, xf, xs⟩ := x
  clear hA
  by_cases h1 : xl < lf
  · have HE : Hid (ahk ⟨xl, xw, xv, xf, xs⟩ lf wn = true) := by unfold Hid ahk; exact decide_eq_true (.inl h1)
    go_enter Try.func50, Try.ntmps50
    go_wp2
    go_ret
    exact ⟨by rw [HE.out]; rfl, below_alloc _ _⟩
  · by_cases h2 : xl = lf
    · by_cases h3 : xw < wn
      · have HE : Hid (ahk ⟨xl, xw, xv, xf, xs⟩ lf wn = true) := by unfold Hid ahk; exact decide_eq_true (.inr ⟨h2, h3⟩)
        subst h2
        go_enter Try.func50, Try.ntmps50
        go_wp2
        go_ret
        exact ⟨by rw [HE.out]; rfl, below_alloc _ _⟩
      · have HE : Hid (ahk ⟨xl, xw, xv, xf, xs⟩ lf wn = false) := by unfold Hid ahk; exact decide_eq_false (by rintro (h | h); exact h1 h; exact h3 h.2)
        subst h2
        go_enter Try.func50, Try.ntmps50
        go_wp2
        go_ret
        exact ⟨by rw [HE.out]; rfl, below_alloc _ _⟩
    · have HE : Hid (ahk ⟨xl, xw, xv, xf, xs⟩ lf wn = false) := by unfold Hid ahk; exact decide_eq_false (by rintro (h | h); exact h1 h; exact h2 h.1)
      have hb : (xl == lf) = false := by simp [h2]
      go_enter Try.func50, Try.ntmps50
      go_wp2
      go_ret
      exact ⟨by rw [HE.out]; rfl, below_alloc _ _⟩
set_option maxHeartbeats 1000000 in
theorem place_any (w : World) (bs o : Nat) (p : Option Addr) (m c : Nat) (mk : Int) (l : List It) (h : LgR w bs o p m c mk l) (lf wn : Int) :
    Calls Try.prog 51 #[.pointer (some ⟨bs, o, none⟩), .int .i64 lf, .int .i64 wn] w fun e w' => e = .returned (.int .i64 (plc lf wn l)) ∧ Below w.heap.size w w' := by
  have H : Hid (LgR w bs o p m c mk l) := h
  have hm := h.small
  have hlen := h.len
  clear h
  go_enter Try.func51, Try.ntmps51
  go_wp2
  go_loopw [7] (fun i wr => ∃ k : Nat, k ≤ m ∧ i = .int .i64 k ∧ plc lf wn l = k + plc lf wn (l.drop k) ∧ Below w.heap.size w wr) (fun i _ => m - (intOf i).toNat)
  case atStart => exact ⟨0, by omega, rfl, by simp, Below.refl _ _⟩
  case round =>
    obtain ⟨k, hk, rfl, hp, hb⟩ := hrel
    have HB : Hid (Below w.heap.size w wr) := hb
    have HP : Hid (plc lf wn l = k + plc lf wn (l.drop k)) := hp
    have d0 := (H.out.below hb).c0
    clear hb hp
    by_cases hlk : k < m
    · obtain ⟨y, hy⟩ : ∃ y, l[k]? = some y := ⟨_, List.getElem?_eq_getElem (by omega)⟩
      obtain ⟨b0, off, rfl, hlt, hcx⟩ := (H.out.below HB.out).rows.pos k (by omega)
      have rg : Hid (wr.rangeAt b0 (off + k * 32) y.cells) := hcx k y hy
      have HY : Hid (l[k]? = some y) := hy
      clear hcx hy
      obtain ⟨av, hav⟩ : ∃ av, ahk y lf wn = av := ⟨_, rfl⟩
      cases av with
      | true =>
        go_wp2_with (first | (refine load_it_mid_g rfl _ rfl _ _ rfl y (by exact rg.out) ?_; intro Y hY) | (go_at_call 50; refine (isAhead_any y Y hY _ _ _).mono ?_; rintro e w1 ⟨rfl, hb1⟩; rw [hav]))
        go_roundw
        case rel => exact ⟨k + 1, by omega, by go_num, by rw [HP.out, plc_drop_yes lf wn l k y HY.out hav]; omega, bnext HB.out hb1⟩
        case measure => simp [intOf]; omega
      | false =>
        have HE : Hid (plc lf wn l = k) := by unfold Hid; rw [HP.out, plc_drop_no lf wn l k y HY.out hav]; rfl
        go_wp2_with (first | (refine load_it_mid_g rfl _ rfl _ _ rfl y (by exact rg.out) ?_; intro Y hY) | (go_at_call 50; refine (isAhead_any y Y hY _ _ _).mono ?_; rintro e w1 ⟨rfl, hb1⟩; rw [hav]))
        go_ret
        exact ⟨by rw [HE.out]; rfl, bnext HB.out hb1⟩
    · obtain rfl : k = m := by omega
      have HE : Hid (plc lf wn l = k) := by unfold Hid; rw [HP.out, List.drop_of_length_le (by omega)]; rfl
      go_wp2
      go_ret
      exact ⟨by rw [HE.out]; rfl, HB.out⟩
set_option maxHeartbeats 1000000 in
theorem isAt_any (w : World) (bs o : Nat) (p : Option Addr) (m c : Nat) (mk : Int) (l : List It) (h : LgR w bs o p m c mk l) (i : Nat) (lf wn : Int) (hi : i ≤ m) :
    Calls Try.prog 52 #[.pointer (some ⟨bs, o, none⟩), .int .i64 i, .int .i64 lf, .int .i64 wn] w fun e w' => e = .returned (.bool (atk lf wn l i)) ∧ w' = w := by
  have hm := h.small
  have hlen := h.len
  have d0 := h.c0
  by_cases hlk : i < m
  · obtain ⟨y, hy⟩ : ∃ y, l[i]? = some y := ⟨_, List.getElem?_eq_getElem (by omega)⟩
    obtain ⟨b0, off, rfl, hlt, hcx⟩ := h.rows.pos i (by omega)
    have y0 : w.cell? ⟨b0, off + i * 32, none⟩ = some (.int .i64 y.leaf) := hcx i y hy 0 _ rfl
    have y1 : w.cell? ⟨b0, off + i * 32 + 1, none⟩ = some (.int .i64 y.win) := hcx i y hy 1 _ rfl
    obtain ⟨yl, yw, yv, yf, ys⟩ := y
    replace y0 : w.cell? ⟨b0, off + i * 32, none⟩ = some (.int .i64 yl) := y0
    replace y1 : w.cell? ⟨b0, off + i * 32 + 1, none⟩ = some (.int .i64 yw) := y1
    have HA : Hid (atk lf wn l i = decide (yl = lf ∧ yw = wn)) := by unfold Hid atk; rw [hy]; rfl
    clear h hcx hy
    by_cases e1 : yl = lf
    · by_cases e2 : yw = wn
      · have HE : Hid (atk lf wn l i = true) := by unfold Hid; rw [HA.out]; simp [e1, e2]
        subst e1 e2
        clear HA
        go_enter Try.func52, Try.ntmps52
        go_wp2
        go_ret
        exact ⟨by rw [HE.out]; rfl, rfl⟩
      · have HE : Hid (atk lf wn l i = false) := by unfold Hid; rw [HA.out]; simp [e2]
        have hb : (yw == wn) = false := by simp [e2]
        subst e1
        clear HA
        go_enter Try.func52, Try.ntmps52
        go_wp2
        go_ret
        exact ⟨by rw [HE.out]; rfl, rfl⟩
    · have HE : Hid (atk lf wn l i = false) := by unfold Hid; rw [HA.out]; simp [e1]
      have hb : (yl == lf) = false := by simp [e1]
      clear HA
      go_enter Try.func52, Try.ntmps52
      go_wp2
      go_ret
      exact ⟨by rw [HE.out]; rfl, rfl⟩
  · obtain rfl : i = m := by omega
    have HE : Hid (atk lf wn l i = false) := by unfold Hid atk; rw [List.getElem?_eq_none (by omega)]; rfl
    clear h
    go_enter Try.func52, Try.ntmps52
    go_wp2
    go_ret
    exact ⟨by rw [HE.out]; rfl, rfl⟩
set_option maxHeartbeats 2000000 in
theorem item_any (w : World) (bs o : Nat) (p : Option Addr) (m c : Nat) (mk : Int) (l : List It) (h : LgR w bs o p m c mk l) (lf wn : Int) :
    Calls Try.prog 77 #[.pointer (some ⟨bs, o, none⟩), .int .i64 lf, .int .i64 wn] w fun e w' => ∃ X, e = .returned (.agg X) ∧ IsIt X (itm lf wn l) ∧ Below w.heap.size w w' := by
  have H : Hid (LgR w bs o p m c mk l) := h
  have hm := h.small
  have hlen := h.len
  have hpl := plc_le lf wn l
  have HI := itm_plc lf wn l
  clear h
  obtain ⟨q, hq⟩ : ∃ q, q = plc lf wn l := ⟨_, rfl⟩
  rw [← hq] at HI hpl
  obtain ⟨av, hav⟩ : ∃ av, atk lf wn l q = av := ⟨_, rfl⟩
  rw [hav] at HI
  have HQ : Hid (q = plc lf wn l) := hq
  have HV : Hid (atk lf wn l q = av) := hav
  clear hq
  cases av with
  | true =>
    rw [if_pos rfl] at HI
    have hqm : q < m := by
      rcases Nat.lt_or_ge q l.length with h | h
      · omega
      · unfold atk at hav; rw [List.getElem?_eq_none h] at hav; simp at hav
    obtain ⟨y, hy⟩ : ∃ y, l[q]? = some y := ⟨_, List.getElem?_eq_getElem (by omega)⟩
    rw [hy] at HI
    have HI' : Hid (itm lf wn l = y) := HI
    obtain ⟨b0, off, rfl, hlt, hcx⟩ := H.out.rows.pos q (by omega)
    have rg : Hid (w.rangeAt b0 (off + q * 32) y.cells) := hcx q y hy
    clear HI hcx hy hav
    go_enter Try.func77, Try.ntmps77
    go_wp2_with (first | (refine alloc_it rfl rfl ?_; intro Z hZ) | (go_at_call 51; refine (place_any _ _ _ _ _ _ _ l (H.out.below (below_alloc _ _)) _ _).mono ?_; rintro e w1 ⟨rfl, hb1⟩; rw [← HQ.out]; have H1 := (H.out.below (below_alloc _ _)).below hb1; have d0 := H1.c0; have hB1 := bnext (below_alloc _ _) hb1; have gZ := keep hb1 (heap_alloc_new w _)) | (go_at_call 52; refine (isAt_any _ _ _ _ _ _ _ l H1 q _ _ (by omega)).mono ?_; rintro e w2 ⟨rfl, rfl⟩; rw [HV.out]) | (refine load_it_mid rfl _ rfl _ _ rfl y (by exact range_below hB1 hlt rg.out) ?_; intro Y hY) | (refine store_it rfl _ _ rfl Y _ rfl rfl hY gZ hZ.size ?_))
    exact bodyPost_ret (results_it rfl _ _ _ Y _ hY rfl (setRow_blk gZ)) rfl ⟨Y, rfl, by rw [HI'.out]; exact hY, below_setRow _ hB1 (Nat.le_refl _)⟩
  | false =>
    rw [if_neg (by simp)] at HI
    have HI' : Hid (itm lf wn l = newIt lf wn) := HI
    clear HI hav
    go_enter Try.func77, Try.ntmps77
    go_wp2_with (first | (refine alloc_it rfl rfl ?_; intro Z hZ) | (go_at_call 51; refine (place_any _ _ _ _ _ _ _ l (H.out.below (below_alloc _ _)) _ _).mono ?_; rintro e w1 ⟨rfl, hb1⟩; rw [← HQ.out]; have H1 := (H.out.below (below_alloc _ _)).below hb1; have d0 := H1.c0; have hB1 := bnext (below_alloc _ _) hb1; have gZ := keep hb1 (heap_alloc_new w _)) | (go_at_call 52; refine (isAt_any _ _ _ _ _ _ _ l H1 q _ _ (by omega)).mono ?_; rintro e w2 ⟨rfl, rfl⟩; rw [HV.out]))
    refine (empty_any _).mono ?_
    rintro e w3 ⟨E, rfl, hE, hb3⟩
    have hB3 := bnext hB1 hb3
    have gZ3 := keep hb3 gZ
    go_wp2_with (first | (refine build_it rfl _ rfl (newIt lf wn) (by refine Eq.trans ?_ (built_it3' lf wn hE); kernel_rfl) ?_; intro M hM) | (refine store_it rfl _ _ rfl M _ rfl rfl hM gZ3 hZ.size ?_))
    exact bodyPost_ret (results_it rfl _ _ _ M _ hM rfl (setRow_blk gZ3)) rfl ⟨M, rfl, by rw [HI'.out]; exact hM, below_setRow _ hB3 (Nat.le_refl _)⟩
end Go.Proofs.Ytpglbakcjihohab

/-! The program's ledger: an item laid in its place; the watermark; the items of some windows. -/
namespace Go.Proofs.Ytpglbakcjihohab
open Go.RowKit
set_option maxRecDepth 100000

theorem sh_get (l : List It) (i : Nat) (y z : It) (hz : l[i]? = some z) : (l.take (i + 1) ++ y :: l.drop (i + 1))[i]? = some z := by
  have hi := (List.getElem?_eq_some_iff.1 hz).1
  rw [List.getElem?_append_left (by simp; omega), List.getElem?_take, if_pos (by omega), hz]
theorem sh_step (l : List It) (i : Nat) (y z : It) (hz : l[i]? = some z) : (l.take (i + 1) ++ y :: l.drop (i + 1)).set (i + 1) z = l.take i ++ z :: l.drop i := by
  obtain ⟨hi, e⟩ := List.getElem?_eq_some_iff.1 hz
  have hl : (l.take (i + 1)).length = i + 1 := by simp; omega
  rw [List.set_append_right _ _ (by omega), hl, Nat.sub_self, List.set_cons_zero, List.take_add_one, hz, List.drop_eq_getElem_cons hi, e]
  simp
theorem sh_set (l : List It) (i : Nat) (y x : It) (hi : i ≤ l.length) : (l.take i ++ y :: l.drop i).set i x = l.take i ++ x :: l.drop i := by
  have hl : (l.take i).length = i := by simp; omega
  rw [List.set_append_right _ _ (by omega), hl, Nat.sub_self, List.set_cons_zero]
theorem sh_len (l : List It) (i : Nat) (y : It) (hi : i ≤ l.length) : (l.take i ++ y :: l.drop i).length = l.length + 1 := by simp; omega

/-- What 'put' leaves as it was: all but the ledger's slice and its list. -/
structure PF (w wr : World) (bs o : Nat) (cur : Array Value) (ty : TypeId) (v v' : Value) : Prop where
  os : wr.os = w.os
  tape : wr.tape = w.tape
  output : wr.output = w.output
  size : w.heap.size ≤ wr.heap.size
  blk : ∀ k, k < w.heap.size → k ≠ bs → some k ≠ v.ownBlock → wr.heap[k]? = w.heap[k]?
  main : wr.heap[bs]? = some (.cells (cur.setIfInBounds o v') ty)
  at' : v'.ownBlock = v.ownBlock ∨ ∃ g, v'.ownBlock = some g ∧ w.heap.size ≤ g
theorem PF.start {w wr : World} {bs o : Nat} {cur : Array Value} {ty : TypeId} {v : Value} (hb : Below w.heap.size w wr) (hm : w.heap[bs]? = some (.cells cur ty)) (hc : cur[o]? = some v) : PF w wr bs o cur ty v v where
  os := hb.os
  tape := hb.tape
  output := hb.output
  size := hb.size
  blk := fun k hk _ _ => hb.block k hk
  main := by
    rw [hb.block bs (lt_of_blk hm), hm]
    congr 2
    apply Array.ext_getElem?
    intro i
    rw [Array.getElem?_setIfInBounds]
    by_cases e : o = i
    · subst e; rw [if_pos rfl, if_pos (Array.getElem?_eq_some_iff.1 hc).1, hc]
    · rw [if_neg e]
  at' := .inl rfl
theorem PF.grown {w wr w' : World} {bs o : Nat} {cur : Array Value} {ty : TypeId} {v v' : Value} {g : Nat} (h : PF w wr bs o cur ty v v') (hv : v'.ownBlock = some g) (hg : wr.grownBy w' (some g)) (hne : g ≠ bs) (hbs : bs < w.heap.size) : PF w w' bs o cur ty v v' where
  os := hg.os.trans h.os
  tape := hg.tape.trans h.tape
  output := hg.output.trans h.output
  size := Nat.le_trans h.size hg.size
  blk := fun k hk h1 h2 => by
    rw [hg.block k (Nat.lt_of_lt_of_le hk h.size) (fun e => by
      have e := Option.some.inj e
      rcases h.at' with a | ⟨g', a, ha⟩
      · rw [hv] at a; exact h2 (by rw [← a, e])
      · rw [hv] at a; have := Option.some.inj a; omega)]
    exact h.blk k hk h1 h2
  main := by rw [hg.block bs (Nat.lt_of_lt_of_le hbs h.size) (fun e => hne (Option.some.inj e).symm)]; exact h.main
  at' := h.at'
section
variable {ops : Array Oper} {rest : List Oper} {i : Nat} {o : Oper} {a : Act} {w : World} {Q : Exit → Act → World → Prop} {K : Act → World → Prop} {S : World → Prop}
theorem wpOp_store_own (hi : ops[i]? = some o) (hgd : o.guard = none) (x y : Operand) (ho : o.op = .store 80 x y) (g k n cap base off : Nat) (A : Array Value) (s : It) (l : List It)
    (hx : a.eval x = .pointer (some ⟨g, off, none⟩)) (hy : a.eval y = .agg A) (hA : IsIt A s) (hown : Own clIt w base 80 (.slice (some ⟨g, 0, none⟩) n cap) l) (hk : k < l.length) (hoff : off = k * 32)
    (h : ∀ w', Own clIt w' base 80 (.slice (some ⟨g, 0, none⟩) n cap) (l.set k s) → w.grownBy w' (some g) → K (a.put o.dst undef) w') : wpOp Try.prog ops Q i K a w := by
  obtain ⟨cur, h1, h2, h3⟩ := hown.set k s hk
  subst hoff
  rw [It.clsize] at h2 h3
  have e : A.toList = clIt.cells s := hA
  refine wpOp_of_wp hi hgd (wp_store_lay 80 x y ho g (k * 32) A hx hy _ cur h1 (info_it hA) (by rw [hA.size]; exact h2) hA.one ?_)
  rw [e]
  exact h _ h3 ⟨rfl, rfl, rfl, by simp, fun j _ hj => setRow_other w g j _ (fun e => hj (by rw [e]))⟩
theorem wpOp_load_it_mid (hi : ops[i]? = some o) (hgd : o.guard = none) (x : Operand) (ho : o.op = .load 80 x) (g off : Nat) (hx : a.eval x = .pointer (some ⟨g, off, none⟩)) (s : It)
    (hg : w.rangeAt g off s.cells) (h : ∀ A, IsIt A s → K (a.put o.dst (.agg A)) w) : wpOp Try.prog ops Q i K a w :=
  wpOp_of_wp hi hgd (by
    have hl := run_loadVar_mid (P := Try.prog) w g off 80 s.cells _ hg Try.underlying80 rfl (info_it' s)
    unfold Oper.wp execOp
    simp only [ho, hx, Instr.loadAt, Instr.sureAddr, Sem.run_bind, Sem.run_pure, Result.andThen_ok, hl]
    exact h _ (isIt_of _))
theorem yieldsIf_load_itB (hw : Region.wanted o (yielded ops a.tmps) = true) (x : Operand) (ho : o.op = .load 80 x) (g : Nat) (hx : a.eval x = .pointer (some ⟨g, 0, none⟩)) (A : Array Value) (s : It) (hA : IsIt A s)
    (hS : ∀ w, S w → w.heap[g]? = some (.cells A 80)) : YieldsIf Try.prog ops S o (.agg A) a :=
  .inl ⟨hw, fun w hw' => by
    unfold execOp
    simp only [ho, hx, Instr.loadAt, Instr.sureAddr, Sem.run_bind, Sem.run_pure, Result.andThen_ok, run_loadVar_row w g _ _ A (0, 0) _ (hS w hw') Try.underlying80 rfl (info_it hA)]⟩
end
theorem grown_drew {w w' : World} {r : Option Nat} (h : w.drew.grownBy w' r) : w.grownBy w' r := ⟨h.os, h.tape, h.output, h.size, h.block⟩
theorem Own.some_of {w : World} {B : Nat} {e : TypeId} {p : Option Addr} {n c : Nat} {l : List It} (h : Own clIt w B e (.slice p n c) l) (hl : 0 < l.length) : ∃ g, p = some ⟨g, 0, none⟩ := by
  rcases h.2 with ⟨e1, h0⟩ | ⟨g, cap, cur, e1, _⟩
  · omega
  · cases e1; exact ⟨g, rfl⟩
set_option maxHeartbeats 4000000 in
theorem put_any (w : World) (B0 bs o : Nat) (cur : Array Value) (ty : TypeId) (p : Option Addr) (m c : Nat) (mk : Int) (l : List It) (x : It) (X : Array Value) (hX : IsIt X x)
    (hm : w.heap[bs]? = some (.cells cur ty)) (hc0 : cur[o]? = some (.slice p m c)) (hc1 : cur[o + 1]? = some (.int .i64 mk)) (hown : Own clIt w B0 80 (.slice p m c) l) (hne : (Value.slice p m c).ownBlock ≠ some bs) (hB0 : B0 ≤ w.heap.size) (hl : l.length ≤ 1000) :
    Calls Try.prog 54 #[.pointer (some ⟨bs, o, none⟩), .agg X] w fun e w' => e = .returned (.tuple #[]) ∧ ∃ s : Sl, Own clIt w' B0 80 s.val (pin x l) ∧ PF w w' bs o cur ty (.slice p m c) s.val := by
  have hlg : LgR w bs o p m c mk l := ⟨by rw [cell_of_row _ _ _ _ _ _ hm]; exact hc0, by rw [cell_of_row _ _ _ _ _ _ hm]; exact hc1, (Own.sl (s := ⟨p, m, c⟩) hown).2, (Own.sl (s := ⟨p, m, c⟩) hown).1, by have h : l.length = m := (Own.sl (s := ⟨p, m, c⟩) hown).1; omega⟩
  have H : Hid (LgR w bs o p m c mk l) := hlg
  have HX : Hid (IsIt X x) := hX
  have HM : Hid (w.heap[bs]? = some (.cells cur ty) ∧ cur[o]? = some (.slice p m c) ∧ Own clIt w B0 80 (.slice p m c) l ∧ (Value.slice p m c).ownBlock ≠ some bs) := ⟨hm, hc0, hown, hne⟩
  have hbs := lt_of_blk hm
  have hlen := hlg.len
  have hpl := plc_le x.leaf x.win l
  have HI := pin_plc x l
  have x0 := hX.get0
  have x1 := hX.get1
  have hmm : m ≤ 1000 := by omega
  clear hlg hX hm hc0 hc1 hown hne
  obtain ⟨q, hq⟩ : ∃ q, q = plc x.leaf x.win l := ⟨_, rfl⟩
  rw [← hq] at HI hpl
  obtain ⟨av, hav⟩ : ∃ av, atk x.leaf x.win l q = av := ⟨_, rfl⟩
  rw [hav] at HI
  have HQ : Hid (q = plc x.leaf x.win l) := hq
  have HV : Hid (atk x.leaf x.win l q = av) := hav
  obtain ⟨lf, hlf⟩ : ∃ lf, lf = x.leaf := ⟨_, rfl⟩
  obtain ⟨wn, hwn⟩ : ∃ wn, wn = x.win := ⟨_, rfl⟩
  rw [← hlf] at x0 HQ HV hav
  rw [← hwn] at x1 HQ HV hav
  clear hq hlf hwn
  have HWB : Hid (Below w.heap.size w (w.alloc (.cells X 80))) := below_alloc _ _
  cases av with
  | true =>
    rw [if_pos rfl] at HI
    have HI' : Hid (pin x l = l.set q x) := HI
    have hqm : q < m := by
      rcases Nat.lt_or_ge q l.length with h | h
      · omega
      · unfold atk at hav; rw [List.getElem?_eq_none h] at hav; simp at hav
    obtain ⟨g, rfl⟩ := HM.out.2.2.1.some_of (by omega)
    clear HI hav
    go_enter Try.func54, Try.ntmps54
    go_upto_region 8 with (first | (go_at_call 51; refine (place_any _ _ _ _ _ _ _ l (H.out.below (below_alloc _ _)) _ _).mono ?_; rintro e w1 ⟨rfl, hb1⟩; rw [← HQ.out]; have H1 : Hid _ := (H.out.below (below_alloc _ _)).below hb1; have hB1 : Hid _ := bnext (below_alloc _ _) hb1; have gX : Hid (w1.heap[w.heap.size]? = some (.cells X 80)) := keep hb1 (heap_alloc_new w _); have z0 : w1.cell? ⟨w.heap.size, 0, none⟩ = some (.int .i64 lf) := (by rw [cell_of_row _ _ _ _ _ _ gX.out]; exact x0); have z1 : w1.cell? ⟨w.heap.size, 1, none⟩ = some (.int .i64 wn) := (by rw [cell_of_row _ _ _ _ _ _ gX.out]; exact x1); clear hb1) | (go_at_call 52; refine (isAt_any _ _ _ _ _ _ _ l H1.out q _ _ (by omega)).mono ?_; rintro e w2 ⟨rfl, rfl⟩; rw [HV.out]))
    rename World => w1
    have hgb : g ≠ bs := fun e => HM.out.2.2.2 (by rw [e]; rfl)
    have hgl : g < w.heap.size := (HM.out.2.2.1.lt g rfl).2
    have hT0 : (fun w' : World => w'.cell? ⟨bs, o, none⟩ = some (.slice (some ⟨g, 0, none⟩) m c) ∧ w'.heap[w.heap.size]? = some (.cells X 80)) w1.drew := ⟨H1.out.c0, gX.out⟩
    have q0 : (0 : Int) ≤ (q : Int) := by omega
    have q1 : (q : Int) < (m : Int) := by omega
    refine wp_region_held (S := fun w' : World => w'.cell? ⟨bs, o, none⟩ = some (.slice (some ⟨g, 0, none⟩) m c) ∧ w'.heap[w.heap.size]? = some (.cells X 80)) mixed ?_
    refine wpAnyH_take (i := 0) (v := (.pointer (some ⟨bs, o, none⟩))) rfl (by kernel_rfl) (by kernel_rfl) (by kernel_rfl) (fun _ _ _ h => h) (Or.inl ⟨by rfl, fun wx hx => by go_simp⟩) hT0 ?_
    try dsimp only
    try simp only [Act.put, List.getElem_toArray, List.getElem_cons_succ, List.getElem_cons_zero, List.setIfInBounds_toArray, List.set_cons_zero, List.set_cons_succ]
    refine wpAnyH_take (i := 1) (v := (.pointer (some ⟨bs, o, none⟩))) rfl (by kernel_rfl) (by kernel_rfl) (by kernel_rfl) (fun _ _ _ h => h) (Or.inl ⟨by rfl, fun wx hx => by go_simp⟩) hT0 ?_
    try dsimp only
    try simp only [Act.put, List.getElem_toArray, List.getElem_cons_succ, List.getElem_cons_zero, List.setIfInBounds_toArray, List.set_cons_zero, List.set_cons_succ]
    refine wpAnyH_take (i := 2) (v := (.pointer (some ⟨bs, o, none⟩))) rfl (by kernel_rfl) (by kernel_rfl) (by kernel_rfl) (fun _ _ _ h => h) (Or.inl ⟨by rfl, fun wx hx => by go_simp⟩) hT0 ?_
    try dsimp only
    try simp only [Act.put, List.getElem_toArray, List.getElem_cons_succ, List.getElem_cons_zero, List.setIfInBounds_toArray, List.set_cons_zero, List.set_cons_succ]
    refine wpAnyH_take (i := 3) (v := (.slice (some ⟨g, 0, none⟩) m c)) rfl (by kernel_rfl) (by kernel_rfl) (by kernel_rfl) (fun _ _ _ h => h) (Or.inl ⟨by rfl, fun wx hx => by have hx1 := hx.1; go_simp⟩) hT0 ?_
    try dsimp only
    try simp only [Act.put, List.getElem_toArray, List.getElem_cons_succ, List.getElem_cons_zero, List.setIfInBounds_toArray, List.set_cons_zero, List.set_cons_succ]
    refine wpAnyH_take (i := 4) (v := (.int .i64 q)) rfl (by kernel_rfl) (by kernel_rfl) (by kernel_rfl) (fun _ _ _ h => h) (Or.inl ⟨by rfl, fun wx hx => by go_simp⟩) hT0 ?_
    try dsimp only
    try simp only [Act.put, List.getElem_toArray, List.getElem_cons_succ, List.getElem_cons_zero, List.setIfInBounds_toArray, List.set_cons_zero, List.set_cons_succ]
    refine wpAnyH_take (i := 5) (v := (.agg X)) rfl (by kernel_rfl) (by kernel_rfl) (by kernel_rfl) (fun _ _ _ h => h) (yieldsIf_load_itB (by rfl) _ rfl _ rfl X _ HX.out (fun wx hx => hx.2)) hT0 ?_
    try dsimp only
    try simp only [Act.put, List.getElem_toArray, List.getElem_cons_succ, List.getElem_cons_zero, List.setIfInBounds_toArray, List.set_cons_zero, List.set_cons_succ]
    refine wpAnyH_take (i := 6) (v := (.pointer (some ⟨g, q * 32, none⟩))) rfl (by kernel_rfl) (by kernel_rfl) (by kernel_rfl) (fun _ _ _ h => h) (Or.inl ⟨by rfl, fun wx hx => by go_simp⟩) hT0 ?_
    try dsimp only
    try simp only [Act.put, List.getElem_toArray, List.getElem_cons_succ, List.getElem_cons_zero, List.setIfInBounds_toArray, List.set_cons_zero, List.set_cons_succ]
    refine wpAnyH_all (rs := [7]) (by kernel_rfl) (by simp) ?_
    intro jj hjj
    simp only [List.mem_cons, List.not_mem_nil, or_false] at hjj
    subst hjj
    refine wpOp_store_own rfl rfl _ _ rfl g q m c B0 (q * 32) X x l rfl rfl HX.out (by exact (HM.out.2.2.1.below (below_drawn hB1.out _))) (by omega) rfl ?_
    intro w3 o3 g3
    have g3' : w1.grownBy w3 (some g) := grown_drew g3
    have hB := hB1.out.size
    refine ⟨⟨by rw [World.cell?_of_block (w := w1) (g3'.block bs (by omega) (fun e => hgb (Option.some.inj e).symm))]; exact H1.out.c0, by rw [g3'.block _ (lt_of_blk gX.out) (fun e => by have := Option.some.inj e; omega)]; exact gX.out⟩, ?_⟩
    try dsimp only
    try simp only [Act.put, List.getElem_toArray, List.getElem_cons_succ, List.getElem_cons_zero, List.setIfInBounds_toArray, List.set_cons_zero, List.set_cons_succ]
    refine wpAnyH_done (by kernel_rfl) ?_ _
    have Z : Hid (PF w w3 bs o cur ty (.slice (some ⟨g, 0, none⟩) m c) (.slice (some ⟨g, 0, none⟩) m c)) := (PF.start hB1.out HM.out.1 HM.out.2.1).grown rfl g3' hgb hbs
    clear hT0
    go_wp2
    exact bodyPost_end (results_none rfl _ _ _) rfl ⟨rfl, ⟨some ⟨g, 0, none⟩, m, c⟩, by rw [HI'.out]; exact o3, Z.out⟩
  | false =>
    rw [if_neg (by simp)] at HI
    have HI' : Hid (pin x l = l.take q ++ x :: l.drop q) := HI
    clear HI hav
    go_enter Try.func54, Try.ntmps54
    go_upto_region 3 with (first | (go_at_call 51; refine (place_any _ _ _ _ _ _ _ l (H.out.below (below_alloc _ _)) _ _).mono ?_; rintro e w1 ⟨rfl, hb1⟩; rw [← HQ.out]; have H1 : Hid _ := (H.out.below (below_alloc _ _)).below hb1; have hB1 : Hid _ := bnext (below_alloc _ _) hb1; have gX : Hid (w1.heap[w.heap.size]? = some (.cells X 80)) := keep hb1 (heap_alloc_new w _); have z0 : w1.cell? ⟨w.heap.size, 0, none⟩ = some (.int .i64 lf) := (by rw [cell_of_row _ _ _ _ _ _ gX.out]; exact x0); have z1 : w1.cell? ⟨w.heap.size, 1, none⟩ = some (.int .i64 wn) := (by rw [cell_of_row _ _ _ _ _ _ gX.out]; exact x1); clear hb1) | (go_at_call 52; refine (isAt_any _ _ _ _ _ _ _ l H1.out q _ _ (by omega)).mono ?_; rintro e w2 ⟨rfl, rfl⟩; rw [HV.out]))
    rename World => w1
    have hs1 := hB1.out.size
    have hx1 := lt_of_blk gX.out
    have d0 := H1.out.c0
    have hOB : Hid (∀ k, (Value.slice p m c).ownBlock = some k → B0 ≤ k ∧ k < w.heap.size) := HM.out.2.2.1.lt
    clear z0 z1
    go_cut [27] (fun _ wx => ∃ gb cb, Own clIt wx B0 80 (.slice (some ⟨gb, 0, none⟩) (m + 1) cb) (l ++ [x]) ∧ PF w wx bs o cur ty (.slice p m c) (.slice (some ⟨gb, 0, none⟩) (m + 1) cb) ∧ wx.heap[w.heap.size]? = some (.cells X 80) ∧ gb ≠ bs ∧ gb ≠ w.heap.size)
    case first =>
      have hT0 : (fun w' : World => w'.heap[w.heap.size]? = some (.cells X 80)) w1.drew := gX.out
      refine wp_region_held (S := fun w' : World => w'.heap[w.heap.size]? = some (.cells X 80)) mixed ?_
      refine wpAnyH_take (i := 0) (v := (.pointer (some ⟨bs, o, none⟩))) rfl (by kernel_rfl) (by kernel_rfl) (by kernel_rfl) (fun _ _ _ h => h) (Or.inl ⟨by rfl, fun wx hx => by go_simp⟩) hT0 ?_
      try dsimp only
      try simp only [Act.put, List.getElem_toArray, List.getElem_cons_succ, List.getElem_cons_zero, List.setIfInBounds_toArray, List.set_cons_zero, List.set_cons_succ]
      refine wpAnyH_take (i := 1) (v := (.pointer (some ⟨bs, o, none⟩))) rfl (by kernel_rfl) (by kernel_rfl) (by kernel_rfl) (fun _ _ _ h => h) (Or.inl ⟨by rfl, fun wx hx => by go_simp⟩) hT0 ?_
      try dsimp only
      try simp only [Act.put, List.getElem_toArray, List.getElem_cons_succ, List.getElem_cons_zero, List.setIfInBounds_toArray, List.set_cons_zero, List.set_cons_succ]
      refine wpAnyH_take (i := 2) (v := (.pointer (some ⟨bs, o, none⟩))) rfl (by kernel_rfl) (by kernel_rfl) (by kernel_rfl) (fun _ _ _ h => h) (Or.inl ⟨by rfl, fun wx hx => by go_simp⟩) hT0 ?_
      try dsimp only
      try simp only [Act.put, List.getElem_toArray, List.getElem_cons_succ, List.getElem_cons_zero, List.setIfInBounds_toArray, List.set_cons_zero, List.set_cons_succ]
      refine wpAnyH_take (i := 3) (v := (.pointer (some ⟨bs, o, none⟩))) rfl (by kernel_rfl) (by kernel_rfl) (by kernel_rfl) (fun _ _ _ h => h) (Or.inl ⟨by rfl, fun wx hx => by go_simp⟩) hT0 ?_
      try dsimp only
      try simp only [Act.put, List.getElem_toArray, List.getElem_cons_succ, List.getElem_cons_zero, List.setIfInBounds_toArray, List.set_cons_zero, List.set_cons_succ]
      refine wpAnyH_take (i := 5) (v := (.agg X)) rfl (by kernel_rfl) (by kernel_rfl) (by kernel_rfl) (fun _ _ _ h => h) (yieldsIf_load_itB (by rfl) _ rfl _ rfl X _ HX.out (fun wx hx => hx)) hT0 ?_
      try dsimp only
      try simp only [Act.put, List.getElem_toArray, List.getElem_cons_succ, List.getElem_cons_zero, List.setIfInBounds_toArray, List.set_cons_zero, List.set_cons_succ]
      refine wpAnyH_all (rs := [4, 6]) (by kernel_rfl) (by simp) ?_
      intro jj hjj
      simp only [List.mem_cons, List.not_mem_nil, or_false] at hjj
      rcases hjj with rfl | rfl
      · skip
        refine wpOp_of_wp rfl rfl (hideK ?_)
        intro K' hK'
        go_simp
        rw [hK'.out]
        refine ⟨hT0, ?_⟩
        try dsimp only
        try simp only [Act.put, List.getElem_toArray, List.getElem_cons_succ, List.getElem_cons_zero, List.setIfInBounds_toArray, List.set_cons_zero, List.set_cons_succ]
        refine wpAnyH_all (rs := [6]) (by kernel_rfl) (by simp) ?_
        intro jj hjj
        simp only [List.mem_cons, List.not_mem_nil, or_false] at hjj
        subst hjj
        refine wpOp_build1_cl slIt rfl rfl _ rfl x (.agg X) rfl HX.out (by decide) ?_
        intro R1
        have hT1 : (fun w' : World => w'.heap[w.heap.size]? = some (.cells X 80)) (w1.drew.alloc (.cells (flat clIt [x]).toArray 80)) := blk_old (w := w1.drew) hT0
        refine ⟨hT1, ?_⟩
        try dsimp only
        try simp only [Act.put, List.getElem_toArray, List.getElem_cons_succ, List.getElem_cons_zero, List.setIfInBounds_toArray, List.set_cons_zero, List.set_cons_succ]
        refine wpAnyH_all (rs := [7]) (by kernel_rfl) (by simp) ?_
        intro jj hjj
        simp only [List.mem_cons, List.not_mem_nil, or_false] at hjj
        subst hjj
        refine wpOp_append_cl slIt rfl rfl _ _ rfl B0 (.slice p m c) l rfl (by exact HM.out.2.2.1.below (bnext (below_drawn hB1.out _) (below_alloc w1.drew _))) _ 1 _ [x] rfl rfl R1 (by omega) (by simp only [maxLen]; omega) (by omega) (by simp; omega) ?_
        intro v1 w2 o1 g1 t1 f1
        obtain ⟨gb, cb, rfl⟩ := f1
        have hlen2 : (l ++ [x]).length = m + 1 := by simp; omega
        rw [hlen2] at o1 t1
        have hob : ∀ k, k < w1.heap.size → some k ≠ (Value.slice p m c).ownBlock → w2.heap[k]? = w1.heap[k]? := fun k hk hn => by
          rw [g1.block k (by simp; omega) hn]; exact Below.heap_alloc w1.drew _ k hk
        have hgb : gb ≠ bs ∧ gb ≠ w.heap.size := by
          rcases t1 with t1 | t1
          · have h1 := hOB.out gb t1.symm
            exact ⟨fun e => HM.out.2.2.2 (by rw [← t1, e]; rfl), by omega⟩
          · have h1 : gb = w1.heap.size + 1 := by simpa [Value.ownBlock] using t1
            omega
        have hT2 : (fun w' : World => w'.heap[w.heap.size]? = some (.cells X 80)) w2 := by
          show w2.heap[w.heap.size]? = _
          rw [hob _ hx1 (fun e => by have := (hOB.out _ e.symm).2; omega)]; exact gX.out
        refine ⟨hT2, ?_⟩
        try dsimp only
        try simp only [Act.put, List.getElem_toArray, List.getElem_cons_succ, List.getElem_cons_zero, List.setIfInBounds_toArray, List.set_cons_zero, List.set_cons_succ]
        refine wpAnyH_take (i := 8) (v := (.pointer (some ⟨bs, o, none⟩))) rfl (by kernel_rfl) (by kernel_rfl) (by kernel_rfl) (fun _ _ _ h => h) (Or.inl ⟨by rfl, fun wx hx => by go_simp⟩) hT2 ?_
        try dsimp only
        try simp only [Act.put, List.getElem_toArray, List.getElem_cons_succ, List.getElem_cons_zero, List.setIfInBounds_toArray, List.set_cons_zero, List.set_cons_succ]
        refine wpAnyH_take (i := 9) (v := (.pointer (some ⟨bs, o, none⟩))) rfl (by kernel_rfl) (by kernel_rfl) (by kernel_rfl) (fun _ _ _ h => h) (Or.inl ⟨by rfl, fun wx hx => by go_simp⟩) hT2 ?_
        try dsimp only
        try simp only [Act.put, List.getElem_toArray, List.getElem_cons_succ, List.getElem_cons_zero, List.setIfInBounds_toArray, List.set_cons_zero, List.set_cons_succ]
        refine wpAnyH_all (rs := [10]) (by kernel_rfl) (by simp) ?_
        intro jj hjj
        simp only [List.mem_cons, List.not_mem_nil, or_false] at hjj
        subst hjj
        have hm2 : w2.heap[bs]? = some (.cells cur ty) := by
          rw [hob bs (by omega) (fun e => HM.out.2.2.2 e.symm), hB1.out.block bs hbs]; exact HM.out.1
        have cx : w2.cell? ⟨bs, o, none⟩ = some (.slice p m c) := by rw [cell_of_row _ _ _ _ _ _ hm2]; exact HM.out.2.1
        have fx : w2.frozen? ⟨bs, o, none⟩ = false := frozen_of_row _ _ _ _ _ hm2
        have hT3 : (fun w' : World => w'.heap[w.heap.size]? = some (.cells X 80)) (w2.setCell ⟨bs, o, none⟩ (.slice (some ⟨gb, 0, none⟩) (m + 1) cb)) := by
          show (w2.setCell _ _).heap[w.heap.size]? = _
          rw [heap_setCell_other _ _ _ _ (by show w.heap.size ≠ bs; omega)]; exact hT2
        rw [hlen2]
        refine wpOp_of_wp rfl rfl (hideK ?_)
        intro K' hK'
        go_simp
        rw [hK'.out]
        refine ⟨hT3, ?_⟩
        try dsimp only
        try simp only [Act.put, List.getElem_toArray, List.getElem_cons_succ, List.getElem_cons_zero, List.setIfInBounds_toArray, List.set_cons_zero, List.set_cons_succ]
        refine wpAnyH_done (by kernel_rfl) ?_ _
        have Z : PF w (w2.setCell ⟨bs, o, none⟩ (.slice (some ⟨gb, 0, none⟩) (m + 1) cb)) bs o cur ty (.slice p m c) (.slice (some ⟨gb, 0, none⟩) (m + 1) cb) := by
          refine ⟨g1.os.trans hB1.out.os, g1.tape.trans hB1.out.tape, g1.output.trans hB1.out.output, ?_, fun k hk h1 h2 => ?_, ?_, ?_⟩
          · have := g1.size; simp at this ⊢; omega
          · rw [heap_setCell_other _ _ _ _ (by show k ≠ bs; exact h1), hob k (by omega) h2]; exact hB1.out.block k hk
          · rw [heap_setCell_same _ _ _ _ _ _ hm2]
          · rcases t1 with t1 | t1
            · exact .inl t1
            · exact .inr ⟨_, t1, by simp; omega⟩
        have Z2 : Own clIt (w2.setCell ⟨bs, o, none⟩ (.slice (some ⟨gb, 0, none⟩) (m + 1) cb)) B0 80 (.slice (some ⟨gb, 0, none⟩) (m + 1) cb) (l ++ [x]) := o1.chg fun k hk => by
          have hk' : gb = k := by simpa [Value.ownBlock] using hk
          exact heap_setCell_other _ _ _ _ (by show k ≠ bs; rw [← hk']; exact hgb.1)
        clear hT0 hT1 hT2 cx fx R1 o1 g1 t1 hob hm2
        go_wp2_with fail
        go_meet
        exact ⟨gb, cb, Z2, Z, hT3, hgb.1, hgb.2⟩
      · skip
        refine wpOp_build1_cl slIt rfl rfl _ rfl x (.agg X) rfl HX.out (by decide) ?_
        intro R1
        have hT1 : (fun w' : World => w'.heap[w.heap.size]? = some (.cells X 80)) (w1.drew.alloc (.cells (flat clIt [x]).toArray 80)) := blk_old (w := w1.drew) hT0
        refine ⟨hT1, ?_⟩
        try dsimp only
        try simp only [Act.put, List.getElem_toArray, List.getElem_cons_succ, List.getElem_cons_zero, List.setIfInBounds_toArray, List.set_cons_zero, List.set_cons_succ]
        refine wpAnyH_all (rs := [4]) (by kernel_rfl) (by simp) ?_
        intro jj hjj
        simp only [List.mem_cons, List.not_mem_nil, or_false] at hjj
        subst hjj
        have d0' : (w1.alloc (.cells (flat clIt [x]).toArray 80)).cell? ⟨bs, o, none⟩ = some (.slice p m c) := cell_keep (below_alloc w1 _) d0
        refine wpOp_of_wp rfl rfl (hideK ?_)
        intro K' hK'
        go_simp
        rw [hK'.out]
        refine ⟨hT1, ?_⟩
        try dsimp only
        try simp only [Act.put, List.getElem_toArray, List.getElem_cons_succ, List.getElem_cons_zero, List.setIfInBounds_toArray, List.set_cons_zero, List.set_cons_succ]
        refine wpAnyH_all (rs := [7]) (by kernel_rfl) (by simp) ?_
        intro jj hjj
        simp only [List.mem_cons, List.not_mem_nil, or_false] at hjj
        subst hjj
        refine wpOp_append_cl slIt rfl rfl _ _ rfl B0 (.slice p m c) l rfl (by exact HM.out.2.2.1.below (bnext (below_drawn hB1.out _) (below_alloc w1.drew _))) _ 1 _ [x] rfl rfl R1 (by omega) (by simp only [maxLen]; omega) (by omega) (by simp; omega) ?_
        intro v1 w2 o1 g1 t1 f1
        obtain ⟨gb, cb, rfl⟩ := f1
        have hlen2 : (l ++ [x]).length = m + 1 := by simp; omega
        rw [hlen2] at o1 t1
        have hob : ∀ k, k < w1.heap.size → some k ≠ (Value.slice p m c).ownBlock → w2.heap[k]? = w1.heap[k]? := fun k hk hn => by
          rw [g1.block k (by simp; omega) hn]; exact Below.heap_alloc w1.drew _ k hk
        have hgb : gb ≠ bs ∧ gb ≠ w.heap.size := by
          rcases t1 with t1 | t1
          · have h1 := hOB.out gb t1.symm
            exact ⟨fun e => HM.out.2.2.2 (by rw [← t1, e]; rfl), by omega⟩
          · have h1 : gb = w1.heap.size + 1 := by simpa [Value.ownBlock] using t1
            omega
        have hT2 : (fun w' : World => w'.heap[w.heap.size]? = some (.cells X 80)) w2 := by
          show w2.heap[w.heap.size]? = _
          rw [hob _ hx1 (fun e => by have := (hOB.out _ e.symm).2; omega)]; exact gX.out
        refine ⟨hT2, ?_⟩
        try dsimp only
        try simp only [Act.put, List.getElem_toArray, List.getElem_cons_succ, List.getElem_cons_zero, List.setIfInBounds_toArray, List.set_cons_zero, List.set_cons_succ]
        refine wpAnyH_take (i := 8) (v := (.pointer (some ⟨bs, o, none⟩))) rfl (by kernel_rfl) (by kernel_rfl) (by kernel_rfl) (fun _ _ _ h => h) (Or.inl ⟨by rfl, fun wx hx => by go_simp⟩) hT2 ?_
        try dsimp only
        try simp only [Act.put, List.getElem_toArray, List.getElem_cons_succ, List.getElem_cons_zero, List.setIfInBounds_toArray, List.set_cons_zero, List.set_cons_succ]
        refine wpAnyH_take (i := 9) (v := (.pointer (some ⟨bs, o, none⟩))) rfl (by kernel_rfl) (by kernel_rfl) (by kernel_rfl) (fun _ _ _ h => h) (Or.inl ⟨by rfl, fun wx hx => by go_simp⟩) hT2 ?_
        try dsimp only
        try simp only [Act.put, List.getElem_toArray, List.getElem_cons_succ, List.getElem_cons_zero, List.setIfInBounds_toArray, List.set_cons_zero, List.set_cons_succ]
        refine wpAnyH_all (rs := [10]) (by kernel_rfl) (by simp) ?_
        intro jj hjj
        simp only [List.mem_cons, List.not_mem_nil, or_false] at hjj
        subst hjj
        have hm2 : w2.heap[bs]? = some (.cells cur ty) := by
          rw [hob bs (by omega) (fun e => HM.out.2.2.2 e.symm), hB1.out.block bs hbs]; exact HM.out.1
        have cx : w2.cell? ⟨bs, o, none⟩ = some (.slice p m c) := by rw [cell_of_row _ _ _ _ _ _ hm2]; exact HM.out.2.1
        have fx : w2.frozen? ⟨bs, o, none⟩ = false := frozen_of_row _ _ _ _ _ hm2
        have hT3 : (fun w' : World => w'.heap[w.heap.size]? = some (.cells X 80)) (w2.setCell ⟨bs, o, none⟩ (.slice (some ⟨gb, 0, none⟩) (m + 1) cb)) := by
          show (w2.setCell _ _).heap[w.heap.size]? = _
          rw [heap_setCell_other _ _ _ _ (by show w.heap.size ≠ bs; omega)]; exact hT2
        rw [hlen2]
        refine wpOp_of_wp rfl rfl (hideK ?_)
        intro K' hK'
        go_simp
        rw [hK'.out]
        refine ⟨hT3, ?_⟩
        try dsimp only
        try simp only [Act.put, List.getElem_toArray, List.getElem_cons_succ, List.getElem_cons_zero, List.setIfInBounds_toArray, List.set_cons_zero, List.set_cons_succ]
        refine wpAnyH_done (by kernel_rfl) ?_ _
        have Z : PF w (w2.setCell ⟨bs, o, none⟩ (.slice (some ⟨gb, 0, none⟩) (m + 1) cb)) bs o cur ty (.slice p m c) (.slice (some ⟨gb, 0, none⟩) (m + 1) cb) := by
          refine ⟨g1.os.trans hB1.out.os, g1.tape.trans hB1.out.tape, g1.output.trans hB1.out.output, ?_, fun k hk h1 h2 => ?_, ?_, ?_⟩
          · have := g1.size; simp at this ⊢; omega
          · rw [heap_setCell_other _ _ _ _ (by show k ≠ bs; exact h1), hob k (by omega) h2]; exact hB1.out.block k hk
          · rw [heap_setCell_same _ _ _ _ _ _ hm2]
          · rcases t1 with t1 | t1
            · exact .inl t1
            · exact .inr ⟨_, t1, by simp; omega⟩
        have Z2 : Own clIt (w2.setCell ⟨bs, o, none⟩ (.slice (some ⟨gb, 0, none⟩) (m + 1) cb)) B0 80 (.slice (some ⟨gb, 0, none⟩) (m + 1) cb) (l ++ [x]) := o1.chg fun k hk => by
          have hk' : gb = k := by simpa [Value.ownBlock] using hk
          exact heap_setCell_other _ _ _ _ (by show k ≠ bs; rw [← hk']; exact hgb.1)
        clear hT0 hT1 hT2 cx fx R1 o1 g1 t1 hob hm2
        go_wp2_with fail
        go_meet
        exact ⟨gb, cb, Z2, Z, hT3, hgb.1, hgb.2⟩
    case rest =>
      obtain ⟨gb, cb, o2, pf, gX2, ngb, ngx⟩ := hcut
      clear gX d0 H1 hB1 hs1 hx1
      obtain ⟨M1, hM1⟩ : ∃ M1, M1 = m + 1 := ⟨_, rfl⟩
      rw [← hM1] at o2 pf
      have HM1 : Hid (M1 = m + 1) := hM1
      have e1 : IntKind.i64.wrap ((M1 : Int) - 1) = (m : Int) := by rw [IntWalk.i64_in _ ⟨by omega, by omega⟩]; omega
      have cellOf : Hid (∀ wr, PF w wr bs o cur ty (.slice p m c) (.slice (some ⟨gb, 0, none⟩) M1 cb) → wr.cell? ⟨bs, o, none⟩ = some (.slice (some ⟨gb, 0, none⟩) M1 cb)) := fun wr pf => by
        rw [cell_of_row _ _ _ _ _ _ pf.main]; simp [Array.getElem?_setIfInBounds, (Array.getElem?_eq_some_iff.1 HM.out.2.1).1]
      have d2 := cellOf.out wc pf
      have HO2 : Hid (Own clIt wc B0 80 (.slice (some ⟨gb, 0, none⟩) M1 cb) (l ++ [x]) ∧ PF w wc bs o cur ty (.slice p m c) (.slice (some ⟨gb, 0, none⟩) M1 cb) ∧ wc.heap[w.heap.size]? = some (.cells X 80)) := ⟨o2, pf, gX2⟩
      clear o2 pf gX2 hM1
      go_wp2
      go_loopw [5] (fun i wr => ∃ (k : Nat) (y : It), q ≤ k ∧ k ≤ m ∧ i = .int .i64 k ∧ Own clIt wr B0 80 (.slice (some ⟨gb, 0, none⟩) M1 cb) (l.take k ++ y :: l.drop k) ∧ PF w wr bs o cur ty (.slice p m c) (.slice (some ⟨gb, 0, none⟩) M1 cb) ∧ wr.heap[w.heap.size]? = some (.cells X 80)) (fun i _ => (intOf i).toNat)
      case atStart => exact ⟨m, x, by omega, Nat.le_refl _, by go_num, by rw [List.take_of_length_le (by omega), List.drop_of_length_le (by omega)]; exact HO2.out.1, HO2.out.2⟩
      case round =>
        clear HO2 d2 e1
        obtain ⟨k, y, hqk, hkm, rfl, o3, pf3, gX3⟩ := hrel
        have d3 := cellOf.out wr pf3
        have HR3 : Hid (Own clIt wr B0 80 (.slice (some ⟨gb, 0, none⟩) M1 cb) (l.take k ++ y :: l.drop k) ∧ PF w wr bs o cur ty (.slice p m c) (.slice (some ⟨gb, 0, none⟩) M1 cb) ∧ wr.heap[w.heap.size]? = some (.cells X 80)) := ⟨o3, pf3, gX3⟩
        clear o3 pf3 gX3
        have kk0 : (0 : Int) ≤ (k : Int) := by omega
        have kk1 : (k : Int) < (M1 : Int) := by have := HM1.out; omega
        by_cases hgt : q < k
        · obtain ⟨j, hj⟩ : ∃ j, k = j + 1 := ⟨k - 1, by omega⟩
          have HJ : Hid (k = j + 1) := hj
          obtain ⟨z, hz⟩ : ∃ z, l[j]? = some z := ⟨_, List.getElem?_eq_getElem (by omega)⟩
          have HZ : Hid (l[j]? = some z) := hz
          have es : IntKind.i64.wrap ((k : Int) - 1) = (j : Int) := by rw [IntWalk.i64_in _ ⟨by omega, by omega⟩]; omega
          have jj0 : (0 : Int) ≤ (j : Int) := by omega
          have jj1 : (j : Int) < (M1 : Int) := by omega
          clear hj hz
          go_upto_region 7 with fail
          have hT0 : (fun w' : World => w'.cell? ⟨bs, o, none⟩ = some (.slice (some ⟨gb, 0, none⟩) M1 cb)) wr.drew := d3
          refine wp_region_held (S := fun w' : World => w'.cell? ⟨bs, o, none⟩ = some (.slice (some ⟨gb, 0, none⟩) M1 cb)) mixed ?_
          refine wpAnyH_take (i := 0) (v := (.pointer (some ⟨bs, o, none⟩))) rfl (by kernel_rfl) (by kernel_rfl) (by kernel_rfl) (fun _ _ _ h => h) (Or.inl ⟨by rfl, fun wx hx => by go_simp⟩) hT0 ?_
          try dsimp only
          try simp only [Act.put, List.getElem_toArray, List.getElem_cons_succ, List.getElem_cons_zero, List.setIfInBounds_toArray, List.set_cons_zero, List.set_cons_succ]
          refine wpAnyH_take (i := 1) (v := (.pointer (some ⟨bs, o, none⟩))) rfl (by kernel_rfl) (by kernel_rfl) (by kernel_rfl) (fun _ _ _ h => h) (Or.inl ⟨by rfl, fun wx hx => by go_simp⟩) hT0 ?_
          try dsimp only
          try simp only [Act.put, List.getElem_toArray, List.getElem_cons_succ, List.getElem_cons_zero, List.setIfInBounds_toArray, List.set_cons_zero, List.set_cons_succ]
          refine wpAnyH_take (i := 2) (v := (.pointer (some ⟨bs, o, none⟩))) rfl (by kernel_rfl) (by kernel_rfl) (by kernel_rfl) (fun _ _ _ h => h) (Or.inl ⟨by rfl, fun wx hx => by go_simp⟩) hT0 ?_
          try dsimp only
          try simp only [Act.put, List.getElem_toArray, List.getElem_cons_succ, List.getElem_cons_zero, List.setIfInBounds_toArray, List.set_cons_zero, List.set_cons_succ]
          refine wpAnyH_take (i := 3) (v := (.slice (some ⟨gb, 0, none⟩) M1 cb)) rfl (by kernel_rfl) (by kernel_rfl) (by kernel_rfl) (fun _ _ _ h => h) (Or.inl ⟨by rfl, fun wx hx => by have hx1 := hx; go_simp⟩) hT0 ?_
          try dsimp only
          try simp only [Act.put, List.getElem_toArray, List.getElem_cons_succ, List.getElem_cons_zero, List.setIfInBounds_toArray, List.set_cons_zero, List.set_cons_succ]
          refine wpAnyH_take (i := 4) (v := (.int .i64 k)) rfl (by kernel_rfl) (by kernel_rfl) (by kernel_rfl) (fun _ _ _ h => h) (Or.inl ⟨by rfl, fun wx hx => by go_simp⟩) hT0 ?_
          try dsimp only
          try simp only [Act.put, List.getElem_toArray, List.getElem_cons_succ, List.getElem_cons_zero, List.setIfInBounds_toArray, List.set_cons_zero, List.set_cons_succ]
          refine wpAnyH_take (i := 5) (v := (.pointer (some ⟨bs, o, none⟩))) rfl (by kernel_rfl) (by kernel_rfl) (by kernel_rfl) (fun _ _ _ h => h) (Or.inl ⟨by rfl, fun wx hx => by go_simp⟩) hT0 ?_
          try dsimp only
          try simp only [Act.put, List.getElem_toArray, List.getElem_cons_succ, List.getElem_cons_zero, List.setIfInBounds_toArray, List.set_cons_zero, List.set_cons_succ]
          refine wpAnyH_take (i := 6) (v := (.pointer (some ⟨bs, o, none⟩))) rfl (by kernel_rfl) (by kernel_rfl) (by kernel_rfl) (fun _ _ _ h => h) (Or.inl ⟨by rfl, fun wx hx => by go_simp⟩) hT0 ?_
          try dsimp only
          try simp only [Act.put, List.getElem_toArray, List.getElem_cons_succ, List.getElem_cons_zero, List.setIfInBounds_toArray, List.set_cons_zero, List.set_cons_succ]
          refine wpAnyH_take (i := 7) (v := (.pointer (some ⟨bs, o, none⟩))) rfl (by kernel_rfl) (by kernel_rfl) (by kernel_rfl) (fun _ _ _ h => h) (Or.inl ⟨by rfl, fun wx hx => by go_simp⟩) hT0 ?_
          try dsimp only
          try simp only [Act.put, List.getElem_toArray, List.getElem_cons_succ, List.getElem_cons_zero, List.setIfInBounds_toArray, List.set_cons_zero, List.set_cons_succ]
          refine wpAnyH_take (i := 8) (v := (.slice (some ⟨gb, 0, none⟩) M1 cb)) rfl (by kernel_rfl) (by kernel_rfl) (by kernel_rfl) (fun _ _ _ h => h) (Or.inl ⟨by rfl, fun wx hx => by have hx1 := hx; go_simp⟩) hT0 ?_
          try dsimp only
          try simp only [Act.put, List.getElem_toArray, List.getElem_cons_succ, List.getElem_cons_zero, List.setIfInBounds_toArray, List.set_cons_zero, List.set_cons_succ]
          refine wpAnyH_take (i := 9) (v := (.int .i64 k)) rfl (by kernel_rfl) (by kernel_rfl) (by kernel_rfl) (fun _ _ _ h => h) (Or.inl ⟨by rfl, fun wx hx => by go_simp⟩) hT0 ?_
          try dsimp only
          try simp only [Act.put, List.getElem_toArray, List.getElem_cons_succ, List.getElem_cons_zero, List.setIfInBounds_toArray, List.set_cons_zero, List.set_cons_succ]
          refine wpAnyH_take (i := 10) (v := (.int .i64 j)) rfl (by kernel_rfl) (by kernel_rfl) (by kernel_rfl) (fun _ _ _ h => h) (Or.inl ⟨by rfl, fun wx hx => by go_simp⟩) hT0 ?_
          try dsimp only
          try simp only [Act.put, List.getElem_toArray, List.getElem_cons_succ, List.getElem_cons_zero, List.setIfInBounds_toArray, List.set_cons_zero, List.set_cons_succ]
          refine wpAnyH_take (i := 11) (v := (.pointer (some ⟨gb, j * 32, none⟩))) rfl (by kernel_rfl) (by kernel_rfl) (by kernel_rfl) (fun _ _ _ h => h) (Or.inl ⟨by rfl, fun wx hx => by go_simp⟩) hT0 ?_
          try dsimp only
          try simp only [Act.put, List.getElem_toArray, List.getElem_cons_succ, List.getElem_cons_zero, List.setIfInBounds_toArray, List.set_cons_zero, List.set_cons_succ]
          refine wpAnyH_all (rs := [12]) (by kernel_rfl) (by simp) ?_
          intro jj hjj
          simp only [List.mem_cons, List.not_mem_nil, or_false] at hjj
          subst hjj
          have o3 := HR3.out.1
          refine wpOp_load_it_mid rfl rfl _ rfl gb (j * 32) rfl z (by have h1 := o3.range j z (by rw [HJ.out]; exact sh_get l j y z HZ.out); exact h1) ?_
          intro Z hZ
          refine ⟨hT0, ?_⟩
          try dsimp only
          try simp only [Act.put, List.getElem_toArray, List.getElem_cons_succ, List.getElem_cons_zero, List.setIfInBounds_toArray, List.set_cons_zero, List.set_cons_succ]
          refine wpAnyH_take (i := 13) (v := (.pointer (some ⟨gb, k * 32, none⟩))) rfl (by kernel_rfl) (by kernel_rfl) (by kernel_rfl) (fun _ _ _ h => h) (Or.inl ⟨by rfl, fun wx hx => by go_simp⟩) hT0 ?_
          try dsimp only
          try simp only [Act.put, List.getElem_toArray, List.getElem_cons_succ, List.getElem_cons_zero, List.setIfInBounds_toArray, List.set_cons_zero, List.set_cons_succ]
          refine wpAnyH_all (rs := [14]) (by kernel_rfl) (by simp) ?_
          intro jj hjj
          simp only [List.mem_cons, List.not_mem_nil, or_false] at hjj
          subst hjj
          refine wpOp_store_own rfl rfl _ _ rfl gb k M1 cb B0 (k * 32) Z z _ rfl rfl hZ (by exact o3) (by rw [sh_len l k y (by omega)]; omega) rfl ?_
          intro w4 o4 g4
          have g4' : wr.grownBy w4 (some gb) := grown_drew g4
          have pf4 := HR3.out.2.1.grown rfl g4' ngb hbs
          refine ⟨cellOf.out w4 pf4, ?_⟩
          try dsimp only
          try simp only [Act.put, List.getElem_toArray, List.getElem_cons_succ, List.getElem_cons_zero, List.setIfInBounds_toArray, List.set_cons_zero, List.set_cons_succ]
          refine wpAnyH_done (by kernel_rfl) ?_ _
          have Z4 : Hid (Own clIt w4 B0 80 (.slice (some ⟨gb, 0, none⟩) M1 cb) (l.take j ++ z :: l.drop j) ∧ PF w w4 bs o cur ty (.slice p m c) (.slice (some ⟨gb, 0, none⟩) M1 cb) ∧ w4.heap[w.heap.size]? = some (.cells X 80)) := by
            refine ⟨?_, pf4, ?_⟩
            · rw [HJ.out, sh_step l j y z HZ.out] at o4; exact o4
            · rw [g4'.block _ (lt_of_blk HR3.out.2.2) (fun e => ngx (Option.some.inj e).symm)]; exact HR3.out.2.2
          clear hT0 d3 o3 o4 g4 g4' pf4 HR3 hZ
          go_wp2
          go_roundw
          case rel => exact ⟨j, z, by have := HJ.out; omega, by have := HJ.out; omega, by go_num, Z4.out⟩
          case measure => have := HJ.out; simp [intOf]; omega
        · obtain rfl : k = q := by omega
          go_upto_region 8 with fail
          have hT0 : (fun w' : World => w'.cell? ⟨bs, o, none⟩ = some (.slice (some ⟨gb, 0, none⟩) M1 cb) ∧ w'.heap[w.heap.size]? = some (.cells X 80)) wr.drew := ⟨d3, HR3.out.2.2⟩
          refine wp_region_held (S := fun w' : World => w'.cell? ⟨bs, o, none⟩ = some (.slice (some ⟨gb, 0, none⟩) M1 cb) ∧ w'.heap[w.heap.size]? = some (.cells X 80)) mixed ?_
          refine wpAnyH_take (i := 0) (v := (.pointer (some ⟨bs, o, none⟩))) rfl (by kernel_rfl) (by kernel_rfl) (by kernel_rfl) (fun _ _ _ h => h) (Or.inl ⟨by rfl, fun wx hx => by go_simp⟩) hT0 ?_
          try dsimp only
          try simp only [Act.put, List.getElem_toArray, List.getElem_cons_succ, List.getElem_cons_zero, List.setIfInBounds_toArray, List.set_cons_zero, List.set_cons_succ]
          refine wpAnyH_take (i := 1) (v := (.pointer (some ⟨bs, o, none⟩))) rfl (by kernel_rfl) (by kernel_rfl) (by kernel_rfl) (fun _ _ _ h => h) (Or.inl ⟨by rfl, fun wx hx => by go_simp⟩) hT0 ?_
          try dsimp only
          try simp only [Act.put, List.getElem_toArray, List.getElem_cons_succ, List.getElem_cons_zero, List.setIfInBounds_toArray, List.set_cons_zero, List.set_cons_succ]
          refine wpAnyH_take (i := 2) (v := (.pointer (some ⟨bs, o, none⟩))) rfl (by kernel_rfl) (by kernel_rfl) (by kernel_rfl) (fun _ _ _ h => h) (Or.inl ⟨by rfl, fun wx hx => by go_simp⟩) hT0 ?_
          try dsimp only
          try simp only [Act.put, List.getElem_toArray, List.getElem_cons_succ, List.getElem_cons_zero, List.setIfInBounds_toArray, List.set_cons_zero, List.set_cons_succ]
          refine wpAnyH_take (i := 3) (v := (.slice (some ⟨gb, 0, none⟩) M1 cb)) rfl (by kernel_rfl) (by kernel_rfl) (by kernel_rfl) (fun _ _ _ h => h) (Or.inl ⟨by rfl, fun wx hx => by have hx1 := hx.1; go_simp⟩) hT0 ?_
          try dsimp only
          try simp only [Act.put, List.getElem_toArray, List.getElem_cons_succ, List.getElem_cons_zero, List.setIfInBounds_toArray, List.set_cons_zero, List.set_cons_succ]
          refine wpAnyH_take (i := 4) (v := (.int .i64 k)) rfl (by kernel_rfl) (by kernel_rfl) (by kernel_rfl) (fun _ _ _ h => h) (Or.inl ⟨by rfl, fun wx hx => by go_simp⟩) hT0 ?_
          try dsimp only
          try simp only [Act.put, List.getElem_toArray, List.getElem_cons_succ, List.getElem_cons_zero, List.setIfInBounds_toArray, List.set_cons_zero, List.set_cons_succ]
          refine wpAnyH_take (i := 5) (v := (.agg X)) rfl (by kernel_rfl) (by kernel_rfl) (by kernel_rfl) (fun _ _ _ h => h) (yieldsIf_load_itB (by rfl) _ rfl _ rfl X _ HX.out (fun wx hx => hx.2)) hT0 ?_
          try dsimp only
          try simp only [Act.put, List.getElem_toArray, List.getElem_cons_succ, List.getElem_cons_zero, List.setIfInBounds_toArray, List.set_cons_zero, List.set_cons_succ]
          refine wpAnyH_take (i := 6) (v := (.pointer (some ⟨gb, k * 32, none⟩))) rfl (by kernel_rfl) (by kernel_rfl) (by kernel_rfl) (fun _ _ _ h => h) (Or.inl ⟨by rfl, fun wx hx => by go_simp⟩) hT0 ?_
          try dsimp only
          try simp only [Act.put, List.getElem_toArray, List.getElem_cons_succ, List.getElem_cons_zero, List.setIfInBounds_toArray, List.set_cons_zero, List.set_cons_succ]
          refine wpAnyH_all (rs := [7]) (by kernel_rfl) (by simp) ?_
          intro jj hjj
          simp only [List.mem_cons, List.not_mem_nil, or_false] at hjj
          subst hjj
          refine wpOp_store_own rfl rfl _ _ rfl gb k M1 cb B0 (k * 32) X x _ rfl rfl HX.out (by exact HR3.out.1) (by rw [sh_len l k y (by omega)]; omega) rfl ?_
          intro w4 o4 g4
          have g4' : wr.grownBy w4 (some gb) := grown_drew g4
          have pf4 := HR3.out.2.1.grown rfl g4' ngb hbs
          refine ⟨⟨cellOf.out w4 pf4, by rw [g4'.block _ (lt_of_blk HR3.out.2.2) (fun e => ngx (Option.some.inj e).symm)]; exact HR3.out.2.2⟩, ?_⟩
          try dsimp only
          try simp only [Act.put, List.getElem_toArray, List.getElem_cons_succ, List.getElem_cons_zero, List.setIfInBounds_toArray, List.set_cons_zero, List.set_cons_succ]
          refine wpAnyH_done (by kernel_rfl) ?_ _
          have Z4 : Hid (Own clIt w4 B0 80 (.slice (some ⟨gb, 0, none⟩) M1 cb) (pin x l) ∧ PF w w4 bs o cur ty (.slice p m c) (.slice (some ⟨gb, 0, none⟩) M1 cb)) := by
            rw [sh_set l k y x (by omega)] at o4
            exact ⟨by rw [HI'.out]; exact o4, pf4⟩
          clear hT0 d3 o4 g4 g4' pf4 HR3
          go_wp2
          exact bodyPost_end (results_none rfl _ _ _) rfl ⟨rfl, ⟨some ⟨gb, 0, none⟩, M1, cb⟩, Z4.out.1, Z4.out.2⟩
end Go.Proofs.Ytpglbakcjihohab
