/-
  Small laws for a region whose order is open and that makes a sketch's room itself.
-/
import Derived.Test.YtpglbakcjihohaaFWalk
import Derived.OrdersHeld
namespace Go.Proofs.Ytpglbakcjihohaa
open Go.RowKit
set_option maxRecDepth 100000
theorem cell_keep {w w' : World} {p : Addr} {v : Value} (hb : Below w.heap.size w w') (h : w.cell? p = some v) : w'.cell? p = some v := by
  rw [hb.cell (block_lt_of_cell h)]; exact h
theorem cell_setRow {w : World} {g : Nat} {A : Array Value} {p : Addr} {v : Value} (hne : p.block ≠ g) (h : w.cell? p = some v) : (w.setRow g A).cell? p = some v := by
  rw [World.cell?_of_block (w := w) (setRow_other w g p.block A hne)]; exact h
section
variable {ops : Array Oper} {i : Nat} {o : Oper} {a : Act} {w : World} {K : Act → World → Prop} {Q : Exit → Act → World → Prop} {S : World → Prop}
theorem wpOp_of_wp (hi : ops[i]? = some o) (hg : o.guard = none) (h : o.wp Try.prog a w K Q) : wpOp Try.prog ops Q i K a w := by
  unfold wpOp
  simp only [hi, Region.wanted, hg, if_true]
  exact .inl h
theorem wpOp_alloc_sk (hi : ops[i]? = some o) (hg : o.guard = none) (ho : o.op = .alloc 27)
    (h : ∀ Z, IsSk Z Sk.zero → K (a.put o.dst (.pointer (some ⟨w.heap.size, 0, none⟩))) (w.alloc (.cells Z 27))) : wpOp Try.prog ops Q i K a w :=
  wpOp_of_wp hi hg (by
    have hz' : (zeroValue 27).run Try.prog w = .ok (.agg Sk.zero.cells) w := by
      have hz := zero_sk
      cases hq : Try.prog.info? 27 with
      | none => simp [hq] at hz
      | some i => simp [hq] at hz; simp [zeroValue, typeInfo, hq, hz]
    unfold Oper.wp execOp
    simp only [ho, Instr.alloc, Sem.run_bind, hz', Result.andThen_ok, newVar, newRow, newObj, Sem.run_pure]
    exact h _ rfl)
theorem wpOp_store_sk {c : Array Value} {g : Nat} (hi : ops[i]? = some o) (hg : o.guard = none) (x y : Operand) (ho : o.op = .store 27 x y) (A : Array Value) (s : Sk)
    (hx : a.eval x = .pointer (some ⟨g, 0, none⟩)) (hy : a.eval y = .agg A) (hA : IsSk A s) (hgg : w.heap[g]? = some (.cells c 27)) (hc : c.size = 28)
    (h : K (a.put o.dst undef) (w.setRow g A)) : wpOp Try.prog ops Q i K a w :=
  wpOp_of_wp hi hg (wp_store_row _ x y ho g A hx hy _ c hgg (info_sk hA) (by rw [hA.size, hc]) hA.one h)
theorem yieldsIf_load_sk (hw : Region.wanted o (yielded ops a.tmps) = true) (x : Operand) (ho : o.op = .load 27 x) (g : Nat) (hx : a.eval x = .pointer (some ⟨g, 0, none⟩)) (A : Array Value) (s : Sk) (hA : IsSk A s)
    (hS : ∀ w, S w → w.heap[g]? = some (.cells A 27)) : YieldsIf Try.prog ops S o (.agg A) a :=
  .inl ⟨hw, fun w hw' => by
    unfold execOp
    simp only [ho, hx, Instr.loadAt, Instr.sureAddr, Sem.run_bind, Sem.run_pure, Result.andThen_ok, run_loadVar_row w g _ _ A (0, 0) _ (hS w hw') Try.underlying27 rfl (info_sk hA)]⟩
end
end Go.Proofs.Ytpglbakcjihohaa
