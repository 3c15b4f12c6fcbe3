/-
  What Empty, the sketch of one event, and Add answer, the program's and the document's, for every key, value and sketch.
-/
import Derived.Test.YtpglbakcjihohaaHash
import Derived.Test.YtpglbakcjihohaaRMerge
import Derived.Test.YtpglbakcjihohaaMerge2
namespace Go.Proofs.Ytpglbakcjihohaa
open Go.RowKit

set_option maxHeartbeats 400000 in
theorem empty_any (w : World) :
    Calls Try.prog 35 #[] w fun e w' => ∃ M, e = .returned (.agg M) ∧ IsSk M Sk.empty ∧ Below w.heap.size w w' := by
  go_enter Try.func35, Try.ntmps35
  go_wp2_with (first | (refine alloc_sk rfl rfl ?_; intro Z hZ) | (refine build_sk rfl _ rfl Sk.empty (by kernel_rfl) ?_; intro M hM) | (refine store_sk_new rfl _ _ rfl M _ _ rfl rfl (by simp) hM (by assumption) ?_))
  exact bodyPost_ret (results_sk rfl _ _ _ M _ hM rfl (heap_alloc_new _ _)) rfl ⟨M, rfl, hM, below_alloc _ _⟩
set_option maxHeartbeats 400000 in
theorem rempty_any (w : World) :
    Calls Try.prog 15 #[] w fun e w' => ∃ M, e = .returned (.agg M) ∧ IsSk M Sk.empty ∧ Below w.heap.size w w' := by
  go_enter Try.func15, Try.ntmps15
  go_wp2_with (first | (refine alloc_sk rfl rfl ?_; intro Z hZ) | (refine build_sk rfl _ rfl Sk.empty (by kernel_rfl) ?_; intro M hM) | (refine store_sk_new rfl _ _ rfl M _ _ rfl rfl (by simp) hM (by assumption) ?_))
  exact bodyPost_ret (results_sk rfl _ _ _ M _ hM rfl (heap_alloc_new _ _)) rfl ⟨M, rfl, hM, below_alloc _ _⟩
set_option maxHeartbeats 400000 in
theorem tempty_any (w : World) :
    Calls Try.prog 11 #[] w fun e w' => ∃ M, e = .returned (.agg M) ∧ IsSk M Sk.empty ∧ Below w.heap.size w w' := by
  go_enter Try.func11, Try.ntmps11
  go_wp2_with (first | (refine alloc_sk rfl rfl ?_; intro Z hZ; have g := heap_alloc_new w (.cells Z 27); have HB := below_alloc w (.cells Z 27)) | (go_at_call 35; refine (empty_any _).mono ?_; rintro e w1 ⟨M, rfl, hM, hb⟩; replace g := keep hb g; replace HB := bnext HB hb) | (refine store_sk rfl _ _ rfl M _ rfl rfl hM g hZ.size ?_))
  exact bodyPost_ret (results_sk rfl _ _ _ M _ hM rfl (setRow_blk g)) rfl ⟨M, rfl, hM, below_setRow _ HB (Nat.le_refl _)⟩

/-- The sketch of one event, its cells made one after the other. -/
theorem one_made {M : Array Value} {key : List UInt8} {v : Int} {H : Nat} (hH : Hid (hash key = H)) (hb : bkt v < 8) {z : Sk} (hM : IsSk M z) (hc : z.c = 1) (hs : z.s = v % 4294967296) (hl : z.l = v) (hg : z.g = v) (hr : ∀ k, z.r k = 0) (hh : ∀ k, z.h k = 0) :
    M[4 + H % 16]? = some (.int .u8 0) ∧ (∀ x : Value, (M.setIfInBounds (4 + H % 16) x)[20 + bkt v]? = some (.int .u8 0)) ∧
    IsSk ((M.setIfInBounds (4 + H % 16) (.int .u8 ((nts H : Int) + 1))).setIfInBounds (20 + bkt v) (.int .u8 1)) (one key v) := by
  refine ⟨?_, fun x => ?_, ?_⟩
  · rw [hM.reg _ (by omega), hr]
  · rw [Array.getElem?_setIfInBounds_ne (by omega), hM.hist _ hb, hh]
  · refine ((hM.setReg (H % 16) (by omega) _).setHist (bkt v) hb _).congr hc hs hl hg (fun k _ => ?_) (fun k _ => ?_)
    · have := hH.out
      simp only [one, this, hr]
      split <;> simp_all
    · simp only [one, hh]
set_option maxHeartbeats 1000000 in
theorem one_any (s : ByteArray) (v : Int) (w : World) (hs : s.size ≤ maxLen) (h0 : -2147483648 ≤ v) (h1 : v ≤ 2147483647) :
    Calls Try.prog 62 #[.string s, .int .i32 v] w fun e w' => ∃ M, e = .returned (.agg M) ∧ IsSk M (one s.data.toList v) ∧ Below w.heap.size w w' := by
  have hH := hash_lt s.data.toList
  have hn := nts_le (hash s.data.toList)
  have hB := bkt_lt v h1
  obtain ⟨H, HH⟩ : ∃ H, Hid (hash s.data.toList = H) := ⟨_, by unfold Hid; rfl⟩
  rw [HH.out] at hH hn
  go_enter Try.func62, Try.ntmps62
  go_wp2_with (first | (refine alloc_sk rfl rfl ?_; intro Z hZ) | (refine build_sk rfl _ rfl ⟨1, v % 4294967296, v, v, fun _ => 0, fun _ => 0⟩ (by kernel_rfl) ?_; intro M hM; obtain ⟨m4, m20, hM2⟩ := one_made HH hB hM rfl rfl rfl rfl (fun _ => rfl) (fun _ => rfl)) | (refine store_sk_new rfl _ _ rfl M _ _ rfl rfl (by simp) hM (by assumption) ?_) | (go_at_call 34; refine (hash_any s _ hs).mono ?_; rintro e w1 ⟨rfl, rfl⟩; rw [HH.out]) | (go_at_call 84; refine (register_any H _ hH).mono ?_; rintro e w1 ⟨rfl, rfl⟩) | (go_at_call 85; refine (bucket_any v _ h0 h1).mono ?_; rintro e w1 ⟨rfl, rfl⟩) | (refine load_sk rfl _ rfl _ rfl _ _ hM2 (blk2 _ _ _) ?_) | (refine store_sk rfl _ _ rfl _ _ rfl rfl hM2 (blk_old (heap_alloc_new _ _)) (IsSk.size (s := Sk.zero) (by assumption)) ?_))
  exact bodyPost_ret (results_sk rfl _ _ _ _ _ hM2 rfl (setRow_blk (blk_old (heap_alloc_new _ _)))) rfl ⟨_, rfl, hM2, below_setRow _ (below_alloc2 _ _ _) (Nat.le_refl _)⟩
set_option maxHeartbeats 1000000 in
theorem rone_any (s : ByteArray) (v : Int) (w : World) (hs : s.size ≤ maxLen) (h0 : -2147483648 ≤ v) (h1 : v ≤ 2147483647) :
    Calls Try.prog 39 #[.string s, .int .i32 v] w fun e w' => ∃ M, e = .returned (.agg M) ∧ IsSk M (one s.data.toList v) ∧ Below w.heap.size w w' := by
  have hH := hash_lt s.data.toList
  have hn := nts_le (hash s.data.toList)
  have hB := bkt_lt v h1
  obtain ⟨H, HH⟩ : ∃ H, Hid (hash s.data.toList = H) := ⟨_, by unfold Hid; rfl⟩
  rw [HH.out] at hH hn
  go_enter Try.func39, Try.ntmps39
  go_wp2_with (first | (refine alloc_sk rfl rfl ?_; intro Z hZ) | (go_at_call 15; refine (rempty_any _).mono ?_; rintro e w1 ⟨M, rfl, hM, hb⟩; have m0 := hM.get0; have m1 := hM.get1; have m2 := hM.get2; have m3 := hM.get3; have g := keep hb (heap_alloc_new _ _); have HB := bnext (below_alloc _ _) hb) | (refine store_sk_new rfl _ _ rfl M _ _ rfl rfl (by simp) hM (by assumption) ?_))
  go_at_call 14
  clear m0 m1 m2 m3
  refine (rhash_any s _ hs).mono ?_
  rintro e w2 ⟨rfl, n, hw2⟩
  rw [HH.out]
  obtain ⟨M4, hM4, g5, HB2, g6⟩ : ∃ M4, IsSk M4 ⟨1, v % 4294967296, v, v, fun _ => 0, fun _ => 0⟩ ∧ w2.heap[w1.heap.size]? = some (.cells M4 27) ∧ Below w.heap.size w w2 ∧ w2.heap[w.heap.size]? = some (.cells _ 27) :=
    ⟨_, (((hM.setC 1).setS (v % 4294967296)).setL v).setG v, by rw [hw2]; exact heap_alloc_new _ _, by rw [hw2]; exact below_drewN (bnext HB (below_alloc _ _)) n, by rw [hw2]; exact blk_old g⟩
  clear hw2 hM hZ
  obtain ⟨m4, m20, hM2⟩ := one_made HH hB hM4 rfl rfl rfl rfl (fun _ => rfl) (fun _ => rfl)
  have hne : w1.heap.size ≠ w.heap.size := by have := lt_of_blk g; omega
  have c4 : w2.cell? ⟨w1.heap.size, 4 + H % 16, none⟩ = some (.int .u8 0) := by rw [cell_of_row _ _ _ _ _ _ g5]; exact m4
  have f4 : ∀ o, w2.frozen? ⟨w1.heap.size, o, none⟩ = false := fun o => frozen_of_row _ _ _ _ _ g5
  have c20 : ∀ x, (w2.setCell ⟨w1.heap.size, 4 + H % 16, none⟩ x).cell? ⟨w1.heap.size, 20 + bkt v, none⟩ = some (.int .u8 0) := fun x => by rw [cell_of_row _ _ _ _ _ _ (heap_setCell_same _ _ _ _ _ _ g5)]; exact m20 x
  have g7 : ∀ x y, ((w2.setCell ⟨w1.heap.size, 4 + H % 16, none⟩ x).setCell ⟨w1.heap.size, 20 + bkt v, none⟩ y).heap[w1.heap.size]? = some (.cells ((M4.setIfInBounds (4 + H % 16) x).setIfInBounds (20 + bkt v) y) 27) := fun x y => heap_setCell_same _ _ _ _ _ _ (heap_setCell_same _ _ _ _ _ _ g5)
  have g8 : ∀ x y, ((w2.setCell ⟨w1.heap.size, 4 + H % 16, none⟩ x).setCell ⟨w1.heap.size, 20 + bkt v, none⟩ y).heap[w.heap.size]? = some (.cells _ 27) := fun x y => by
    rw [heap_setCell_other _ _ _ _ (by show _ ≠ w1.heap.size; omega), heap_setCell_other _ _ _ _ (by show _ ≠ w1.heap.size; omega)]; exact g6
  have HB3 : ∀ x y, Below w.heap.size w ((w2.setCell ⟨w1.heap.size, 4 + H % 16, none⟩ x).setCell ⟨w1.heap.size, 20 + bkt v, none⟩ y) := fun x y => (HB2.setCell HB.size _).setCell HB.size _
  clear g5 m4 m20 g
  go_wp2_with (first | (go_at_call 64; refine (noughts_any H _ hH).mono ?_; rintro e w9 ⟨rfl, hw9⟩; subst hw9))
  go_at_call 65
  refine (rbucket_any v _ h0 h1).mono ?_
  rintro e w8 ⟨rfl, hw8⟩
  subst hw8
  go_wp2_with (first | (refine load_sk rfl _ rfl _ rfl _ _ hM2 (by exact g7 _ _) ?_) | (refine store_sk rfl _ _ rfl _ _ rfl rfl hM2 (by exact g8 _ _) hZ.size ?_))
  exact bodyPost_ret (results_sk rfl _ _ _ _ _ hM2 rfl (setRow_blk (g8 _ _))) rfl ⟨_, rfl, hM2, below_setRow _ (HB3 _ _) (Nat.le_refl _)⟩
end Go.Proofs.Ytpglbakcjihohaa
