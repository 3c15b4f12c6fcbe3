/-
  The registers of a sketch, loaded and compared as a whole.
-/
import Derived.Test.YtpglbakcjihohaaEq
import Derived.Deep.MidRow
namespace Go.Proofs.Ytpglbakcjihohaa
open Go.RowKit
set_option maxRecDepth 100000

def regsOf (s : Sk) : List Value := (List.range 16).map fun k => .int .u8 (s.r k)
theorem regsOf_len (s : Sk) : (regsOf s).length = 16 := by simp [regsOf]
theorem regsOf_get (s : Sk) (k : Nat) (hk : k < 16) : (regsOf s)[k]? = some (.int .u8 (s.r k)) := by simp [regsOf, hk]
theorem regsOf_eq (s t : Sk) (h : ∀ k, s.r k = t.r k) : regsOf s = regsOf t := by unfold regsOf; simp [h]
theorem regs_range {w : World} {g : Nat} {A : Array Value} {s : Sk} (hA : IsSk A s) (hg : w.heap[g]? = some (.cells A 27)) : w.rangeAt g 4 (regsOf s) := by
  intro j v hv
  have hj : j < 16 := by have := (List.getElem?_eq_some_iff.1 hv).1; rw [regsOf_len] at this; exact this
  rw [cell_of_row _ _ _ _ _ _ hg, hA.reg j hj]
  rw [regsOf_get s j hj] at hv
  exact hv
theorem info_regs (s : Sk) : (Try.prog.info? 24).map (·.size) = some (regsOf s).length := by rw [regsOf_len]; kernel_rfl
theorem guard_regs : Try.prog.eqGuardType Try.prog.depth 24 = false := by kernel_rfl
theorem eqAt_regs : EqAt Try.prog 10000 24 := run_equalIn_deep 9998 2 24 (by kernel_rfl)
theorem eq_regs (s : Sk) (ok : s.Ok) (w : World) : (binOp .eql 24 (.agg (regsOf s).toArray) (.agg (regsOf s).toArray)).run Try.prog w = .ok (.bool true) w := by
  obtain ⟨la, ha⟩ := keys_bytes (o := 0) (f := s.r) 0 Try.underlying24 cellsOf_regs (cs := regsOf s) (by rw [regsOf_len]; omega) (fun k hk => by rw [Nat.zero_add]; exact regsOf_get s k hk) ok.r0 ok.r1
  rw [List.drop_zero, List.take_of_length_le (by rw [regsOf_len]; omega)] at ha
  have hf : (Value.agg (regsOf s).toArray).formed Try.prog 24 = true := by
    simp only [Value.formed, Try.underlying24, List.size_toArray, regsOf_len, cellsOf_regs]; rfl
  obtain ⟨r, hr, hi⟩ := eqAt_regs w 2 2 (.agg (regsOf s).toArray) (.agg (regsOf s).toArray) la la hf hf (by simpa [Value.cells] using ha) (by simpa [Value.cells] using ha)
  rw [run_eql_struct, hr, hi.2 rfl]; rfl
section
variable {ops : Array Oper} {rest : List Oper} {o : Oper} {a : Act} {w : World} {Q : Exit → Act → World → Prop}
theorem load_regs (hgd : o.guard = none) (x : Operand) (ho : o.op = .load 24 x) (g : Nat) (hx : a.eval x = .pointer (some ⟨g, 4, none⟩)) (A : Array Value) (s : Sk) (hA : IsSk A s) (hg : w.heap[g]? = some (.cells A 27))
    (h : wpList Try.prog ops Q rest (a.put o.dst (.agg (regsOf s).toArray)) w) : wpList Try.prog ops Q (o :: rest) a w :=
  wpList_load_mid hgd _ x ho g 4 hx (regsOf s) _ (regs_range hA hg) Try.underlying24 rfl (info_regs s) h
theorem eql_regs (hgd : o.guard = none) (x y : Operand) (t' : TypeId) (ho : o.op = .binOp .eql 24 x y t') (s : Sk) (ok : s.Ok) (L : List Value) (hL : L = regsOf s) (hx : a.eval x = .agg L.toArray) (hy : a.eval y = .agg (regsOf s).toArray)
    (h : wpList Try.prog ops Q rest (a.put o.dst (.bool true)) w) : wpList Try.prog ops Q (o :: rest) a w := by
  subst hL
  refine wpList_plain hgd fun _ hK => ?_
  unfold Oper.wp execOp
  simp only [ho, hx, hy, Sem.run_bind, run_eqGuard_agg w .eql _ x y _ _ guard_regs, Result.andThen_ok, eq_regs s ok, Sem.run_pure]
  exact hK _ _ h
end
end Go.Proofs.Ytpglbakcjihohaa
