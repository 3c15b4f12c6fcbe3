/-
  Laws of the walk for whole sketches in memory over this translation: made, loaded, stored; the cells are a variable of which only the sketch is known.
-/
import Derived.Test.YtpglbakcjihohaaRows
import Derived.Test.YtpglbakcjihohaaBase
namespace Go.Proofs.Ytpglbakcjihohaa
open Go.RowKit

def Sk.zero : Sk := ⟨0, 0, 0, 0, fun _ => 0, fun _ => 0⟩
theorem Sk.zero_ok : Sk.zero.Ok :=
  ⟨by decide, by decide, by decide, by decide, by decide, by decide, by decide, by decide, fun _ => by show (0 : Int) ≤ 0; decide, fun _ => by show (0 : Int) ≤ 255; decide, fun _ => by show (0 : Int) ≤ 0; decide, fun _ => by show (0 : Int) ≤ 255; decide⟩
theorem info_sk {A : Array Value} {s : Sk} (h : IsSk A s) : (Try.prog.info? 27).map (·.size) = some A.size := by rw [h.size]; kernel_rfl
theorem zero_sk : (Try.prog.info? 27).bind (·.zero) = some (.agg Sk.zero.cells) := by kernel_rfl
theorem built_sk (x y z : Int) : Try.prog.built 27 [(1, .int .u32 x), (2, .int .i32 y), (3, .int .i32 z)] = some (Sk.mk 0 x y z (fun _ => 0) (fun _ => 0)).cells := by kernel_rfl

section
variable {ops : Array Oper} {rest : List Oper} {o : Oper} {a : Act} {w : World} {Q : Exit → Act → World → Prop}
theorem alloc_sk (hgd : o.guard = none) (ho : o.op = .alloc 27)
    (h : ∀ Z, IsSk Z Sk.zero → wpList Try.prog ops Q rest (a.put o.dst (.pointer (some ⟨w.heap.size, 0, none⟩))) (w.alloc (.cells Z 27))) : wpList Try.prog ops Q (o :: rest) a w :=
  wpList_alloc_z hgd _ ho _ zero_sk (h _ rfl)
theorem build_sk (hgd : o.guard = none) (parts : Array (Nat × Operand)) (ho : o.op = .build 27 parts) (s : Sk)
    (hz : Try.prog.built 27 (parts.map fun (i, x) => (i, a.eval x)).toList = some s.cells)
    (h : ∀ M, IsSk M s → wpList Try.prog ops Q rest (a.put o.dst (.agg M)) w) : wpList Try.prog ops Q (o :: rest) a w :=
  wpList_build_z hgd _ parts ho _ hz (h _ rfl)
theorem load_sk (hgd : o.guard = none) (x : Operand) (ho : o.op = .load 27 x) (g : Nat) (hx : a.eval x = .pointer (some ⟨g, 0, none⟩)) (A : Array Value) (s : Sk) (hA : IsSk A s)
    (hg : w.heap[g]? = some (.cells A 27)) (h : wpList Try.prog ops Q rest (a.put o.dst (.agg A)) w) : wpList Try.prog ops Q (o :: rest) a w :=
  wpList_load_row hgd _ x ho g hx _ A (0, 0) _ hg Try.underlying27 rfl (info_sk hA) h
/-- A whole sketch into the block that was made last. -/
theorem store_sk_new {o0 : World} {c : Array Value} {n : Nat} (hgd : o.guard = none) (x y : Operand) (ho : o.op = .store 27 x y) (A : Array Value) (s z : Sk)
    (hx : a.eval x = .pointer (some ⟨n, 0, none⟩)) (hy : a.eval y = .agg A) (hn : n = o0.heap.size) (hA : IsSk A s) (hc : IsSk c z)
    (h : wpList Try.prog ops Q rest (a.put o.dst undef) (o0.alloc (.cells A 27))) : wpList Try.prog ops Q (o :: rest) a (o0.alloc (.cells c 27)) :=
  wpList_store_new hgd x y ho A hx hy hn (info_sk hA) (by rw [hA.size, hc.size]) hA.one h
/-- A whole sketch into a block of a sketch. -/
theorem store_sk {c : Array Value} {g : Nat} (hgd : o.guard = none) (x y : Operand) (ho : o.op = .store 27 x y) (A : Array Value) (s : Sk)
    (hx : a.eval x = .pointer (some ⟨g, 0, none⟩)) (hy : a.eval y = .agg A) (hA : IsSk A s) (hg : w.heap[g]? = some (.cells c 27)) (hc : c.size = 28)
    (h : wpList Try.prog ops Q rest (a.put o.dst undef) (w.setRow g A)) : wpList Try.prog ops Q (o :: rest) a w :=
  wpList_store_row hgd _ x y ho g A hx hy _ c hg (info_sk hA) (by rw [hA.size, hc]) hA.one h
end
theorem setRow_blk {w : World} {g : Nat} {c A : Array Value} {t : TypeId} (h : w.heap[g]? = some (.cells c t)) : (w.setRow g A).heap[g]? = some (.cells A t) := setRow_heap w g c A t _ h
theorem setRow_oth {w : World} {g i : Nat} {A : Array Value} {b : Obj} (hne : i ≠ g) (h : w.heap[i]? = some b) : (w.setRow g A).heap[i]? = some b := by rw [setRow_other w g i A hne]; exact h
theorem below_setRow {w w' : World} {g : Nat} (A : Array Value) (h : Below w.heap.size w w') (hg : w.heap.size ≤ g) : Below w.heap.size w (w'.setRow g A) :=
  h.trans ⟨rfl, rfl, rfl, by simp, fun k hk => setRow_other w' g k A (by omega)⟩
/-- The answer of a function whose result is a sketch in memory. -/
theorem results_sk {fn : Func} {p : Tmp} (h : fn.results = #[.cell p 27]) (tmps : Array Value) (w : World) (g : Nat) (A : Array Value) (s : Sk) (hA : IsSk A s)
    (hp : tmps.getD p undef = .pointer (some ⟨g, 0, none⟩)) (hg : w.heap[g]? = some (.cells A 27)) : (results fn tmps).run Try.prog w = .ok (.agg A) w :=
  results_cell_row h tmps w g _ A (0, 0) _ hp hg Try.underlying27 rfl (info_sk hA)
end Go.Proofs.Ytpglbakcjihohaa
