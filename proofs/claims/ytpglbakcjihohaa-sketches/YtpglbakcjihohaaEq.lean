/-
  Two sketches with the same cells compare as equal; loads under a guard; Add of both sides.
-/
import Derived.Test.YtpglbakcjihohaaOne
import Derived.DeepKeys
namespace Go.Proofs.Ytpglbakcjihohaa
open Go.RowKit
set_option maxRecDepth 100000

theorem mapM_some_of {α β : Type} {f : α → Option β} : ∀ (l : List α), (∀ x ∈ l, ∃ y, f x = some y) → ∃ ys, l.mapM f = some ys
  | [], _ => ⟨[], rfl⟩
  | x :: l, h => by
    obtain ⟨y, hy⟩ := h x (by simp)
    obtain ⟨ys, hys⟩ := mapM_some_of l (fun z hz => h z (by simp [hz]))
    exact ⟨y :: ys, by simp [List.mapM_cons, hy, hys]⟩
theorem cellsOf_sk : Try.prog.cellsOf 27 = 28 := by kernel_rfl
theorem cellsOf_u16 : Try.prog.cellsOf 22 = 1 := by kernel_rfl
theorem cellsOf_u32 : Try.prog.cellsOf 23 = 1 := by kernel_rfl
theorem cellsOf_i32 : Try.prog.cellsOf 21 = 1 := by kernel_rfl
theorem cellsOf_u8 : Try.prog.cellsOf 5 = 1 := by kernel_rfl
theorem cellsOf_regs : Try.prog.cellsOf 24 = 16 := by kernel_rfl
theorem cellsOf_hist : Try.prog.cellsOf 25 = 8 := by kernel_rfl
theorem keys_int {t : TypeId} {k : IntKind} {cs : List Value} {i : Nat} {n : Int} (d : Nat) (ht : Try.prog.underlying t = some (.int k)) (h : cs[i]? = some (.int k n)) (hw : (Lit.int k n).wf = true) :
    ∃ y, Try.prog.keyLits (d + 1) t ((cs.drop i).take 1) = some y := by
  have e : (cs.drop i).take 1 = [.int k n] := by
    obtain ⟨hi, hv⟩ := List.getElem?_eq_some_iff.1 h
    rw [List.drop_eq_getElem_cons hi, hv]; simp
  rw [e]
  exact ⟨[.int k n], by simp [Program.keyLits, ht, hw]⟩
theorem keys_bytes {t : TypeId} {m o : Nat} {cs : List Value} {f : Nat → Int} (d : Nat) (ht : Try.prog.underlying t = some (.array m 5)) (hc : Try.prog.cellsOf t = m) (hl : o + m ≤ cs.length)
    (h : ∀ k, k < m → cs[o + k]? = some (.int .u8 (f k))) (h0 : ∀ k, 0 ≤ f k) (h1 : ∀ k, f k ≤ 255) : ∃ y, Try.prog.keyLits (d + 2) t ((cs.drop o).take m) = some y := by
  obtain ⟨ys, hys⟩ := mapM_some_of (f := fun i => Try.prog.keyLits (d + 1) 5 ((((cs.drop o).take m).drop (i * Try.prog.cellsOf 5)).take (Try.prog.cellsOf 5))) (List.range m) (fun i hi => by
    simp only [cellsOf_u8, Nat.mul_one]
    have hi' : i < m := by simpa using hi
    refine keys_int (k := .u8) (n := f i) d Try.underlying5 ?_ ?_
    · rw [List.getElem?_take, if_pos hi', List.getElem?_drop]; exact h i hi'
    · have := h0 i; have := h1 i
      simp [Lit.wf, IntKind.min, IntKind.max, IntKind.signed, IntKind.bits]; omega)
  refine ⟨ys.flatten, ?_⟩
  have hlen : ((cs.drop o).take m).length = Try.prog.cellsOf t := by rw [hc]; simp; omega
  rw [show d + 2 = (d + 1) + 1 from rfl]
  unfold Program.keyLits
  rw [ht]
  simp only [hlen, if_true, hys, Option.map_some]
theorem keys_sk {A : Array Value} {s : Sk} (hA : IsSk A s) (ok : s.Ok) : ∃ la, Try.prog.keyLits 3 27 A.toList = some la := by
  have hl : A.toList.length = 28 := by simpa using hA.size
  have h0 := ok.c0; have h1 := ok.c1; have h2 := ok.s0; have h3 := ok.s1; have h4 := ok.l0; have h5 := ok.l1; have h6 := ok.g0; have h7 := ok.g1
  obtain ⟨y0, k0⟩ := keys_int (cs := A.toList) (n := s.c) (k := .u16) (i := 0) 1 Try.underlying22 (by simpa using hA.get0) (by simp [Lit.wf, IntKind.min, IntKind.max, IntKind.signed, IntKind.bits]; omega)
  obtain ⟨y1, k1⟩ := keys_int (cs := A.toList) (n := s.s) (k := .u32) (i := 1) 1 Try.underlying23 (by simpa using hA.get1) (by simp [Lit.wf, IntKind.min, IntKind.max, IntKind.signed, IntKind.bits]; omega)
  obtain ⟨y2, k2⟩ := keys_int (cs := A.toList) (n := s.l) (k := .i32) (i := 2) 1 Try.underlying21 (by simpa using hA.get2) (by simp [Lit.wf, IntKind.min, IntKind.max, IntKind.signed, IntKind.bits]; omega)
  obtain ⟨y3, k3⟩ := keys_int (cs := A.toList) (n := s.g) (k := .i32) (i := 3) 1 Try.underlying21 (by simpa using hA.get3) (by simp [Lit.wf, IntKind.min, IntKind.max, IntKind.signed, IntKind.bits]; omega)
  obtain ⟨y4, k4⟩ := keys_bytes (o := 4) (f := s.r) 0 Try.underlying24 cellsOf_regs (cs := A.toList) (by omega) (fun k hk => by simpa using hA.reg k hk) ok.r0 ok.r1
  obtain ⟨y5, k5⟩ := keys_bytes (o := 20) (f := s.h) 0 Try.underlying25 cellsOf_hist (cs := A.toList) (by omega) (fun k hk => by simpa using hA.hist k hk) ok.h0 ok.h1
  refine ⟨[y0, y1, y2, y3, y4, y5].flatten, ?_⟩
  rw [show (3 : Nat) = 2 + 1 from rfl]
  unfold Program.keyLits
  rw [Try.underlying27]
  simp only [hl, cellsOf_sk, cellsOf_u16, cellsOf_u32, cellsOf_i32, cellsOf_regs, cellsOf_hist, List.mapM_cons, List.mapM_nil, k0, k1, k2, k3, k4, k5]
  simp
theorem eqAt_sk : EqAt Try.prog 10000 27 := run_equalIn_deep 9997 3 27 (by kernel_rfl)
theorem eq_sk {A : Array Value} {s : Sk} (hA : IsSk A s) (ok : s.Ok) (w : World) : (Op.equalIn 10000 27 (.agg A) (.agg A)).run Try.prog w = .ok true w := by
  obtain ⟨la, ha⟩ := keys_sk hA ok
  have hf : (Value.agg A).formed Try.prog 27 = true := by
    simp only [Value.formed, Try.underlying27, hA.size, cellsOf_sk]; rfl
  obtain ⟨r, hr, hi⟩ := eqAt_sk w 3 3 (.agg A) (.agg A) la la hf hf ha ha
  rw [hr, hi.2 rfl]
theorem eql_sk {A : Array Value} {s : Sk} (hA : IsSk A s) (ok : s.Ok) (w : World) : (binOp .eql 27 (.agg A) (.agg A)).run Try.prog w = .ok (.bool true) w := by
  rw [run_eql_struct, eq_sk hA ok]; rfl
theorem neq_sk {A : Array Value} {s : Sk} (hA : IsSk A s) (ok : s.Ok) (w : World) : (binOp .neq 27 (.agg A) (.agg A)).run Try.prog w = .ok (.bool false) w := by
  rw [run_neq_struct, eq_sk hA ok]; rfl
theorem guard_sk : Try.prog.eqGuardType Try.prog.depth 27 = false := by kernel_rfl

section
variable {ops : Array Oper} {rest : List Oper} {o : Oper} {a : Act} {w : World} {Q : Exit → Act → World → Prop}
/-- A whole sketch loaded under a guard that holds. -/
theorem load_sk_g (hw : Region.wanted o (yielded ops a.tmps) = true) (x : Operand) (ho : o.op = .load 27 x) (g : Nat) (hx : a.eval x = .pointer (some ⟨g, 0, none⟩)) (A : Array Value) (s : Sk) (hA : IsSk A s)
    (hg : w.heap[g]? = some (.cells A 27)) (h : wpList Try.prog ops Q rest (a.put o.dst (.agg A)) w) : wpList Try.prog ops Q (o :: rest) a w :=
  wpList_step fun _ hK => by
    rw [if_pos hw]
    exact wp_load_row _ x ho g hx _ A (0, 0) _ hg Try.underlying27 rfl (info_sk hA) (hK _ _ h)
/-- Two sketches of the same cells compared, under a guard that holds. -/
theorem eql_sk_g (hw : Region.wanted o (yielded ops a.tmps) = true) (x y : Operand) (t' : TypeId) (ho : o.op = .binOp .eql 27 x y t') (A : Array Value) (s : Sk) (hA : IsSk A s) (ok : s.Ok) (hx : a.eval x = .agg A) (hy : a.eval y = .agg A)
    (h : wpList Try.prog ops Q rest (a.put o.dst (.bool true)) w) : wpList Try.prog ops Q (o :: rest) a w :=
  wpList_step fun _ hK => by
    rw [if_pos hw]
    unfold Oper.wp execOp
    simp only [ho, hx, hy, Sem.run_bind, run_eqGuard_agg w .eql _ x y A A guard_sk, Result.andThen_ok, eql_sk hA ok, Sem.run_pure]
    exact hK _ _ h
theorem neq_sk_g (hw : Region.wanted o (yielded ops a.tmps) = true) (x y : Operand) (t' : TypeId) (ho : o.op = .binOp .neq 27 x y t') (A : Array Value) (s : Sk) (hA : IsSk A s) (ok : s.Ok) (hx : a.eval x = .agg A) (hy : a.eval y = .agg A)
    (h : wpList Try.prog ops Q rest (a.put o.dst (.bool false)) w) : wpList Try.prog ops Q (o :: rest) a w :=
  wpList_step fun _ hK => by
    rw [if_pos hw]
    unfold Oper.wp execOp
    simp only [ho, hx, hy, Sem.run_bind, run_eqGuard_agg w .neq _ x y A A guard_sk, Result.andThen_ok, neq_sk hA ok, Sem.run_pure]
    exact hK _ _ h
end

set_option maxHeartbeats 400000 in
theorem add_any (z : Sk) (A : Array Value) (hA : IsSk A z) (ok : z.Ok) (s : ByteArray) (v : Int) (w : World) (hs : s.size ≤ maxLen) (h0 : -2147483648 ≤ v) (h1 : v ≤ 2147483647) :
    Calls Try.prog 36 #[.agg A, .string s, .int .i32 v] w fun e w' => ∃ M, e = .returned (.agg M) ∧ IsSk M (mrg z (one s.data.toList v)) ∧ Below w.heap.size w w' := by
  have ok1 := one_ok s.data.toList v h0 h1
  go_enter Try.func36, Try.ntmps36
  go_wp2_with (first | (refine alloc_sk rfl rfl ?_; intro Z hZ) | (go_at_call 62; refine (one_any s v _ hs h0 h1).mono ?_; rintro e w1 ⟨M, rfl, hM, hb1⟩; have gA := keep hb1 (blk_old (heap_alloc_new w (.cells A 27))); have gR := keep hb1 (blk2 w (.cells A 27) (.cells Z 27)); have HZ := hZ.size; have HB := bnext (below_alloc2 w (.cells A 27) (.cells Z 27)) hb1; clear hb1) | (refine store_sk_new rfl _ _ rfl M _ _ rfl rfl (by rfl) hM (by assumption) ?_) | (refine load_sk rfl _ rfl _ rfl A _ hA (by exact blk_old gA) ?_) | (refine load_sk rfl _ rfl _ rfl M _ hM (by exact heap_alloc_new _ _) ?_) | (go_at_call 37; refine (merge_any z _ A M hA hM ok ok1 _).mono ?_; rintro e w2 ⟨R, rfl, hR, hb2⟩; replace gR := keep hb2 (blk_old gR); replace HB := bnext (bnext HB (below_alloc _ _)) hb2) | (refine store_sk rfl _ _ rfl R _ rfl rfl hR (by exact gR) HZ ?_))
  exact bodyPost_ret (results_sk rfl _ _ _ R _ hR rfl (setRow_blk gR)) rfl ⟨R, rfl, hR, below_setRow _ HB (by omega)⟩
set_option maxHeartbeats 400000 in
theorem tadd_any (z : Sk) (A : Array Value) (hA : IsSk A z) (ok : z.Ok) (s : ByteArray) (v : Int) (w : World) (hs : s.size ≤ maxLen) (h0 : -2147483648 ≤ v) (h1 : v ≤ 2147483647) :
    Calls Try.prog 12 #[.agg A, .string s, .int .i32 v] w fun e w' => ∃ M, e = .returned (.agg M) ∧ IsSk M (mrg z (one s.data.toList v)) ∧ Below w.heap.size w w' := by
  go_enter Try.func12, Try.ntmps12
  go_wp2_with (first | (refine alloc_sk rfl rfl ?_; intro Z hZ) | (refine load_sk rfl _ rfl _ rfl A _ hA (by exact blk_old (heap_alloc_new _ _)) ?_) | (go_at_call 36; refine (add_any z A hA ok s v _ hs h0 h1).mono ?_; rintro e w1 ⟨R, rfl, hR, hb1⟩; have gR := keep hb1 (blk2 w (.cells A 27) (.cells Z 27)); have HB := bnext (below_alloc2 w (.cells A 27) (.cells Z 27)) hb1) | (refine store_sk rfl _ _ rfl R _ rfl rfl hR (by exact gR) hZ.size ?_))
  exact bodyPost_ret (results_sk rfl _ _ _ R _ hR rfl (setRow_blk gR)) rfl ⟨R, rfl, hR, below_setRow _ HB (by omega)⟩
set_option maxHeartbeats 400000 in
theorem radd_any (z : Sk) (A : Array Value) (hA : IsSk A z) (ok : z.Ok) (s : ByteArray) (v : Int) (w : World) (hs : s.size ≤ maxLen) (h0 : -2147483648 ≤ v) (h1 : v ≤ 2147483647) :
    Calls Try.prog 16 #[.agg A, .string s, .int .i32 v] w fun e w' => ∃ M, e = .returned (.agg M) ∧ IsSk M (mrg z (one s.data.toList v)) ∧ Below w.heap.size w w' := by
  have ok1 := one_ok s.data.toList v h0 h1
  go_enter Try.func16, Try.ntmps16
  go_wp2_with (first | (refine alloc_sk rfl rfl ?_; intro Z hZ) | (go_at_call 39; refine (rone_any s v _ hs h0 h1).mono ?_; rintro e w1 ⟨M, rfl, hM, hb1⟩; have gA := keep hb1 (blk_old (heap_alloc_new w (.cells A 27))); have gR := keep hb1 (blk2 w (.cells A 27) (.cells Z 27)); have HZ := hZ.size; have HB := bnext (below_alloc2 w (.cells A 27) (.cells Z 27)) hb1; clear hb1) | (refine store_sk_new rfl _ _ rfl M _ _ rfl rfl (by rfl) hM (by assumption) ?_) | (refine load_sk rfl _ rfl _ rfl A _ hA (by exact blk_old gA) ?_) | (refine load_sk rfl _ rfl _ rfl M _ hM (by exact heap_alloc_new _ _) ?_) | (go_at_call 17; refine (rmerge_any z _ A M hA hM ok ok1 _).mono ?_; rintro e w2 ⟨R, rfl, hR, hb2⟩; replace gR := keep hb2 (blk_old gR); replace HB := bnext (bnext HB (below_alloc _ _)) hb2) | (refine store_sk rfl _ _ rfl R _ rfl rfl hR (by exact gR) HZ ?_))
  exact bodyPost_ret (results_sk rfl _ _ _ R _ hR rfl (setRow_blk gR)) rfl ⟨R, rfl, hR, below_setRow _ HB (by omega)⟩
end Go.Proofs.Ytpglbakcjihohaa
