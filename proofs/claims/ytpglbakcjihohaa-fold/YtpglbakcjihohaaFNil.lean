/-
  Of no events: the statement on the sketch of some events comes out true.
-/
import Derived.Test.YtpglbakcjihohaaEOpen
import Derived.Test.YtpglbakcjihohaaPick
import Derived.Test.YtpglbakcjihohaaFEq
import Derived.Deep.DeepCutAuto
namespace Go.Proofs.Ytpglbakcjihohaa.LFold
open Go.RowKit
set_option maxRecDepth 100000

theorem pick_zero (c : Int) (w : World) (h0 : -9223372036854775808 ≤ c) (h1 : c ≤ 9223372036854775807) :
    Calls Try.prog 24 #[.int .i64 c, .int .i64 1] w fun e w' => e = .returned (.int .i64 0) ∧ w' = w := by
  have h := pick_any c 1 w h0 h1 (by omega) (by omega)
  have := pk_bd c 1 (by omega)
  rw [show pk c 1 = 0 by omega] at h
  exact h
theorem isSk_same {A B : Array Value} {s : Sk} (h : IsSk A s) (k : IsSk B s) : A = B := Eq.trans (show A = s.cells from h) (show B = s.cells from k).symm
theorem evs_nil (w : World) (a : Option Addr) : Evs w a [] := ⟨fun _ h => (by cases h), .inl rfl⟩
theorem dist_empty (A : Array Value) (hA : IsSk A Sk.empty) (w : World) :
    Calls Try.prog 18 #[.agg A] w fun e w' => e = .returned (.int .u64 10) ∧ Below w.heap.size w w' := by
  have h := tdistinct_any Sk.empty A hA w Sk.empty_ok
  rw [wsum_empty] at h
  exact h
theorem all_empty (A : Array Value) (hA : IsSk A Sk.empty) (w : World) :
    Calls Try.prog 25 #[.agg A, .int .i64 8] w fun e w' => e = .returned (.int .i64 0) ∧ Below w.heap.size w w' := by
  have h := all_any Sk.empty A hA 8 (by omega) w Sk.empty_ok
  rw [show hsum Sk.empty 8 = 0 from by decide] at h
  exact h

set_option maxHeartbeats 1000000 in
set_option maxRecDepth 100000 in
theorem walk_nil (a : Option Addr) (cap : Nat) (cut again : Int) (hc0 : -9223372036854775808 ≤ cut) (hc1 : cut ≤ 9223372036854775807) (w : World) :
    Calls Try.prog 6 #[.slice a 0 cap, .int .i64 cut, .int .i64 again] w fun e w' => e = .returned (.bool true) ∧ Below w.heap.size w w' := by
  obtain ⟨ax, hsx⟩ : ∃ ax : Option Addr, ∀ w, (Instr.slice 39 (.slice a 0 cap) none (some (.int .i64 0)) none).run Try.prog w = .ok (.slice ax 0 cap) w :=
    ⟨if cap = 0 then a else a.map (·.add 0), fun w => by
      have h1 : (Instr.sliceBound (.int .i64 0) cap .sliceAcap).run Try.prog w = .ok 0 w := run_sliceBound (P := Try.prog) (w := w) .i64 0 cap .sliceAcap (by omega) (by omega)
      have hs : (sizeOf 43).run Try.prog w = .ok 2 w := by kernel_rfl
      simp only [Instr.slice, Sem.run_bind, run_underlying Try.underlying39, Result.andThen_ok, Instr.sliceBounds, Sem.run_pure, if_true, h1, hs]
      simp⟩
  obtain ⟨ay, hsy⟩ : ∃ ay : Option Addr, ∀ w, (Instr.slice 39 (.slice a 0 cap) (some (.int .i64 0)) none none).run Try.prog w = .ok (.slice ay 0 cap) w :=
    ⟨if cap = 0 then a else a.map (·.add 0), fun w => by
      have h1 : (Instr.sliceBound (.int .i64 0) 0 .sliceB).run Try.prog w = .ok 0 w := run_sliceBound (P := Try.prog) (w := w) .i64 0 0 .sliceB (by omega) (by omega)
      have hs : (sizeOf 43).run Try.prog w = .ok 2 w := by kernel_rfl
      simp only [Instr.slice, Sem.run_bind, run_underlying Try.underlying39, Result.andThen_ok, Instr.sliceBounds, Sem.run_pure, Option.isSome_none, Bool.false_eq_true, if_false, h1, hs]
      simp⟩
  go_enter Try.func6, Try.ntmps6
  go_wp2_with fail
  refine (fold_any [] _ 0 cap _ rfl (evs_nil _ _) (by unfold maxLen; omega)).mono ?_
  rintro e w1 ⟨S, rfl, hS, hb⟩
  have hS' : IsSk S Sk.empty := hS
  have HB : Hid (Below w.heap.size w w1) := hb
  clear hb hS
  go_wp2_with (first | (refine alloc_sk rfl rfl ?_; intro Z hZ) | (refine store_sk_new rfl _ _ rfl S _ _ rfl rfl (by rfl) hS' hZ ?_; clear hZ))
  refine (pick_zero _ _ hc0 hc1).mono ?_
  rintro e w9 ⟨rfl, rfl⟩
  go_wp2_with fail
  refine (fold_any [] _ 0 cap _ rfl (evs_nil _ _) (by unfold maxLen; omega)).mono ?_
  rintro e w2 ⟨X, rfl, hX, hb⟩
  have hX' : IsSk X Sk.empty := hX
  have gS := keep hb (heap_alloc_new _ _)
  replace HB := bnext (bnext HB (below_alloc _ _)) hb
  clear hb hX
  go_wp2_with (first | (refine alloc_sk rfl rfl ?_; intro Z hZ) | (refine store_sk_new rfl _ _ rfl X _ _ rfl rfl (by rfl) hX' hZ ?_; clear hZ))
  refine (fold_any [] _ 0 cap _ rfl (evs_nil _ _) (by unfold maxLen; omega)).mono ?_
  rintro e w3 ⟨Y, rfl, hY, hb⟩
  have hY' : IsSk Y Sk.empty := hY
  replace gS := keep hb (blk_old gS)
  have gX := keep hb (heap_alloc_new _ _)
  replace HB := bnext (bnext HB (below_alloc _ _)) hb
  clear hb hY hsx hsy
  go_wp2_with (first | (refine alloc_sk rfl rfl ?_; intro Z hZ) | (refine store_sk_new rfl _ _ rfl Y _ _ rfl rfl (by rfl) hY' hZ ?_; clear hZ) | (refine load_sk rfl _ rfl _ rfl Y _ hY' (by exact heap_alloc_new _ _) ?_) | (refine load_sk rfl _ rfl _ rfl X _ hX' (by exact blk_old gX) ?_))
  refine (tmerge_any _ _ Y X hY' hX' Sk.empty_ok Sk.empty_ok _).mono ?_
  rintro e w4 ⟨M, rfl, hM, hb⟩
  rw [mrgEmpty Sk.empty_ok] at hM
  obtain rfl := isSk_same hM hS'
  replace gS := keep hb (blk_old gS)
  replace HB := bnext (bnext HB (below_alloc _ _)) hb
  clear hb gX hX' hY' hM
  go_wp2_with (first | (refine alloc_sk rfl rfl ?_; intro Z hZ) | (refine store_sk_new rfl _ _ rfl M _ _ rfl rfl (by rfl) hS' hZ ?_; clear hZ) | (refine load_sk_g (by rfl) _ rfl _ rfl M _ hS' (by exact heap_alloc_new _ _) ?_) | (refine load_sk_g (by rfl) _ rfl _ rfl M _ hS' (by exact blk_old gS) ?_) | (refine neq_sk_g (by rfl) _ _ _ rfl _ _ hS' Sk.empty_ok rfl rfl ?_))
  have hw14 := lt_of_blk gS
  have o0 : w4.cell? ⟨w1.heap.size, 0, none⟩ = some (.int .u16 0) := by rw [cell_of_row _ _ _ _ _ _ gS]; exact hS'.get0
  have o1 : w4.cell? ⟨w1.heap.size, 1, none⟩ = some (.int .u32 0) := by rw [cell_of_row _ _ _ _ _ _ gS]; exact hS'.get1
  have o2 : w4.cell? ⟨w1.heap.size, 2, none⟩ = some (.int .i32 2147483647) := by rw [cell_of_row _ _ _ _ _ _ gS]; exact hS'.get2
  have o3 : w4.cell? ⟨w1.heap.size, 3, none⟩ = some (.int .i32 (-2147483648)) := by rw [cell_of_row _ _ _ _ _ _ gS]; exact hS'.get3
  refine wp_loop_once ?_
  go_upto_if 107 with fail
  clear o0 o1 o2 o3
  go_wp2_with (refine load_sk rfl _ rfl _ rfl M _ hS' (by exact blk_old gS) ?_)
  refine (all_empty M hS' _).mono ?_
  rintro e w5 ⟨rfl, hb⟩
  replace gS := keep hb (blk_old gS)
  replace HB := bnext (bnext HB (below_alloc _ _)) hb
  clear hb hw14
  go_upto_if 124 with fail
  go_wp2_with (refine load_sk rfl _ rfl _ rfl M _ hS' (by exact gS) ?_)
  refine (dist_empty M hS' _).mono ?_
  rintro e w6 ⟨rfl, hb⟩
  replace HB := bnext HB hb
  go_wp2
  go_ret
  exact ⟨rfl, HB⟩
end Go.Proofs.Ytpglbakcjihohaa.LFold
