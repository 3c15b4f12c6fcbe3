/-
  What tributary.Merge answers: the same as the inner Merge.
-/
import Derived.Test.YtpglbakcjihohaaMerge
namespace Go.Proofs.Ytpglbakcjihohaa
open Go.RowKit

set_option maxHeartbeats 400000 in
theorem tmerge_any (a b : Sk) (A B : Array Value) (hA : IsSk A a) (hB : IsSk B b) (oka : a.Ok) (okb : b.Ok) (w : World) :
    Calls Try.prog 13 #[.agg A, .agg B] w fun e w' => ∃ M, e = .returned (.agg M) ∧ IsSk M (mrg a b) ∧ Below w.heap.size w w' := by
  have g1 := heap_alloc_new w (.cells A 27)
  have g2 := blk2 w (.cells A 27) (.cells B 27)
  go_enter Try.func13, Try.ntmps13
  go_wp2_with (first | (refine alloc_sk rfl rfl ?_; intro Z hZ; have g3 := blk3 w (.cells A 27) (.cells B 27) (.cells Z 27); have HB := bnext (below_alloc2 w (.cells A 27) (.cells B 27)) (below_alloc _ (.cells Z 27))) | (refine load_sk rfl _ rfl _ rfl A _ hA (blk_old (blk_old g1)) ?_) | (refine load_sk rfl _ rfl _ rfl B _ hB (blk_old g2) ?_) | (go_at_call 37; refine (merge_any a b A B hA hB oka okb _).mono ?_; rintro e w1 ⟨M, rfl, hM, hb⟩; replace g3 := keep hb g3; replace HB := bnext HB hb) | (refine store_sk rfl _ _ rfl M _ rfl rfl hM g3 hZ.size ?_))
  refine bodyPost_ret (results_sk rfl _ _ _ M _ hM rfl (setRow_blk g3)) rfl ⟨M, rfl, hM, below_setRow _ HB (by omega)⟩
end Go.Proofs.Ytpglbakcjihohaa
