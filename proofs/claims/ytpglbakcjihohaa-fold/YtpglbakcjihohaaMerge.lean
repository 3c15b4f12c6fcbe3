/-
  What Merge, the program's and the document's, answers for every two sketches whose fields fit their kinds: field by field what P3 says; nothing old in memory is turned.
-/
import Derived.Test.YtpglbakcjihohaaRows
import Derived.Test.YtpglbakcjihohaaSkLaws
import Derived.Deep.QuietTactic
import Derived.BigQuiet
import Derived.Deep.RegionHeld3
namespace Go.Proofs.Ytpglbakcjihohaa
open Go.RowKit

theorem ret_int {k : IntKind} {a b : Int} (h : a = b) : Ending.returned (.int k a) = .returned (.int k b) := by rw [h]
set_option maxHeartbeats 400000 in
theorem sumUpTo_any (a b l : Int) (w : World) (ha : 0 ≤ a) (ha1 : a ≤ 65535) (hb : 0 ≤ b) (hb1 : b ≤ 65535) :
    Calls Try.prog 63 #[.int .i64 a, .int .i64 b, .int .i64 l] w fun e w' => e = .returned (.int .i64 (min (a + b) l)) ∧ w' = w := by
  by_cases h : l < a + b
  · have H : Hid (min (a + b) l = l) := by show _ = _; omega
    generalize min (a + b) l = m at H ⊢
    go_enter Try.func63, Try.ntmps63
    go_wp2
    go_ret
    exact ⟨ret_int H.out.symm, rfl⟩
  · have H : Hid (min (a + b) l = a + b) := by show _ = _; omega
    generalize min (a + b) l = m at H ⊢
    go_enter Try.func63, Try.ntmps63
    go_wp2
    go_ret
    exact ⟨ret_int H.out.symm, rfl⟩

/-- What Merge has in memory: both sketches, boxed; the room of its answer; the sketch that it makes. -/
structure MW (w wr : World) (A B M : Array Value) : Prop where
  below : Below w.heap.size w wr
  a : wr.heap[w.heap.size]? = some (.cells A 27)
  b : wr.heap[w.heap.size + 1]? = some (.cells B 27)
  z : ∃ Z : Array Value, Z.size = 28 ∧ wr.heap[w.heap.size + 1 + 1]? = some (.cells Z 27)
  m : wr.heap[w.heap.size + 1 + 1 + 1]? = some (.cells M 27)
theorem MW.start {w : World} {A B Z M : Array Value} (hZ : Z.size = 28) : MW w ((((w.alloc (.cells A 27)).alloc (.cells B 27)).alloc (.cells Z 27)).alloc (.cells M 27)) A B M :=
  ⟨bnext (bnext (bnext (below_alloc _ _) (below_alloc _ _)) (below_alloc _ _)) (below_alloc _ _),
   blk_old (blk_old (blk_old (heap_alloc_new _ _))), blk_old (blk_old (by have := heap_alloc_new (w.alloc (.cells A 27)) (.cells B 27); simpa using this)),
   ⟨Z, hZ, blk_old (by have := heap_alloc_new ((w.alloc (.cells A 27)).alloc (.cells B 27)) (.cells Z 27); simpa using this)⟩,
   by have := heap_alloc_new (((w.alloc (.cells A 27)).alloc (.cells B 27)).alloc (.cells Z 27)) (.cells M 27); simpa using this⟩
theorem MW.drew {w wr : World} {A B M : Array Value} (h : MW w wr A B M) : MW w wr.drew A B M := ⟨h.below.drew, h.a, h.b, h.z, h.m⟩
theorem MW.drewN {w wr : World} {A B M : Array Value} (h : MW w wr A B M) (n : Nat) : MW w (wr.drewN n) A B M := ⟨⟨h.below.os, h.below.tape, h.below.output, h.below.size, h.below.block⟩, h.a, h.b, h.z, h.m⟩
theorem MW.set {w wr : World} {A B M : Array Value} (h : MW w wr A B M) (i : Nat) (v : Value) : MW w (wr.setCell ⟨w.heap.size + 1 + 1 + 1, i, none⟩ v) A B (M.setIfInBounds i v) :=
  ⟨h.below.setCell (by show _ ≤ w.heap.size + 1 + 1 + 1; omega) _,
   by rw [heap_setCell_other _ _ _ _ (by show _ ≠ w.heap.size + 1 + 1 + 1; omega)]; exact h.a,
   by rw [heap_setCell_other _ _ _ _ (by show _ ≠ w.heap.size + 1 + 1 + 1; omega)]; exact h.b,
   by obtain ⟨Z, hz, e⟩ := h.z; exact ⟨Z, hz, by rw [heap_setCell_other _ _ _ _ (by show _ ≠ w.heap.size + 1 + 1 + 1; omega)]; exact e⟩,
   heap_setCell_same _ _ _ _ _ _ h.m⟩

/-- What is known of the sketch that Merge makes when k registers and h buckets are done. -/
def mpart (a b : Sk) (k h : Nat) : Sk := ⟨min (a.c + b.c) 65535, (a.s + b.s) % 4294967296, min a.l b.l, max a.g b.g, fun j => if j < k then max (a.r j) (b.r j) else 0, fun j => if j < h then min (a.h j + b.h j) 255 else 0⟩
theorem merge_start {a b : Sk} {A B Z M : Array Value} {w : World} {L G : Int} (hZ : Z.size = 28) (hM : IsSk M ⟨min (a.c + b.c) 65535, (a.s + b.s) % 4294967296, L, G, fun _ => 0, fun _ => 0⟩) (hL : L = min a.l b.l) (hG : G = max a.g b.g) :
    ∃ (k : Nat) (M' : Array Value), k ≤ 16 ∧ Value.int .i64 0 = .int .i64 k ∧ IsSk M' (mpart a b k 0) ∧
      MW w ((((w.alloc (.cells A 27)).alloc (.cells B 27)).alloc (.cells Z 27)).alloc (.cells M 27)) A B M' :=
  ⟨0, M, by omega, rfl, hM.congr rfl rfl hL hG (fun j _ => by simp [mpart]) (fun j _ => by simp [mpart]), MW.start hZ⟩
theorem mpart_reg {a b : Sk} {k : Nat} {M : Array Value} (hk : k < 16) (h : IsSk M (mpart a b k 0)) (v u : Int) (hv : v = max (a.r k) (b.r k)) : IsSk ((M.setIfInBounds (4 + k) (.int .u8 u)).setIfInBounds (4 + k) (.int .u8 v)) (mpart a b (k + 1) 0) :=
  ((h.setReg k hk u).setReg k hk v).congr rfl rfl rfl rfl (fun j hj => by
    by_cases e : j = k
    · subst e; simp [mpart, hv]
    · simp [mpart, e, show j < k + 1 ↔ j < k by omega]) (fun _ _ => rfl)
theorem mpart_reg1 {a b : Sk} {k : Nat} {M : Array Value} (hk : k < 16) (h : IsSk M (mpart a b k 0)) (v : Int) (hv : v = max (a.r k) (b.r k)) : IsSk (M.setIfInBounds (4 + k) (.int .u8 v)) (mpart a b (k + 1) 0) :=
  (h.setReg k hk v).congr rfl rfl rfl rfl (fun j hj => by
    by_cases e : j = k
    · subst e; simp [mpart, hv]
    · simp [mpart, e, show j < k + 1 ↔ j < k by omega]) (fun _ _ => rfl)
theorem mpart_hist {a b : Sk} {h : Nat} {M : Array Value} (hk : h < 8) (hM : IsSk M (mpart a b 16 h)) (v : Int) (hv : v = min (a.h h + b.h h) 255) : IsSk (M.setIfInBounds (20 + h) (.int .u8 v)) (mpart a b 16 (h + 1)) :=
  (hM.setHist h hk v).congr rfl rfl rfl rfl (fun _ _ => rfl) (fun j hj => by
    by_cases e : j = h
    · subst e; simp [mpart, hv]
    · simp [mpart, e, show j < h + 1 ↔ j < h by omega])
theorem mpart_end {a b : Sk} {M : Array Value} (hM : IsSk M (mpart a b 16 8)) : IsSk M (mrg a b) :=
  hM.congr rfl rfl rfl rfl (fun j hj => by simp [mpart, mrg, hj]) (fun j hj => by simp [mpart, mrg, hj])

set_option maxHeartbeats 1000000 in
theorem merge_any (a b : Sk) (A B : Array Value) (hA : IsSk A a) (hB : IsSk B b) (oka : a.Ok) (okb : b.Ok) (w : World) :
    Calls Try.prog 37 #[.agg A, .agg B] w fun e w' => ∃ M, e = .returned (.agg M) ∧ IsSk M (mrg a b) ∧ Below w.heap.size w w' := by
  have a0 := hA.get0
  have a1 := hA.get1
  have a2 := hA.get2
  have a3 := hA.get3
  have b0 := hB.get0
  have b1 := hB.get1
  have b2 := hB.get2
  have b3 := hB.get3
  have := oka.c0
  have := oka.c1
  have := okb.c0
  have := okb.c1
  by_cases hl : b.l < a.l <;> by_cases hg : a.g < b.g
  all_goals
    go_enter Try.func37, Try.ntmps37
    go_wp2_with (first | (refine alloc_sk rfl rfl ?_; intro Z hZ) | (refine build_sk rfl _ rfl ⟨0, (a.s + b.s) % 4294967296, a.l, a.g, fun _ => 0, fun _ => 0⟩ (by kernel_rfl) ?_; intro M hM; have m2 := hM.get2; have m3 := hM.get3; have m0 := hM.get0) | (refine store_sk_new rfl _ _ rfl M _ _ rfl rfl (by simp) hM (by assumption) ?_) | (go_at_call 63; refine (sumUpTo_any _ _ _ _ (by assumption) (by assumption) (by assumption) (by assumption)).mono ?_; rintro e w' ⟨rfl, rfl⟩))
    clear a0 a1 a2 a3 b0 b1 b2 b3 m0 m2 m3
    go_loopw [6] (fun i wr => ∃ (k : Nat) (M : Array Value), k ≤ 16 ∧ i = .int .i64 k ∧ IsSk M (mpart a b k 0) ∧ MW w wr A B M) (fun i _ => 16 - (intOf i).toNat)
    case atStart => exact merge_start (IsSk.size (s := Sk.zero) (by assumption)) (by first | exact ((hM.setC _).setL _).setG _ | exact (hM.setC _).setL _ | exact (hM.setC _).setG _ | exact hM.setC _) (by first | omega | (dsimp only; omega)) (by first | omega | (dsimp only; omega))
    case round =>
      clear hM
      obtain ⟨k, M, hk, rfl, hM, hm⟩ := hrel
      by_cases hlt : k < 16
      · have ca : wr.cell? ⟨w.heap.size, 4 + k, none⟩ = some (.int .u8 (a.r k)) := by rw [cell_of_row _ _ _ _ _ _ hm.a]; exact hA.reg k hlt
        have cb : wr.cell? ⟨w.heap.size + 1, 4 + k, none⟩ = some (.int .u8 (b.r k)) := by rw [cell_of_row _ _ _ _ _ _ hm.b]; exact hB.reg k hlt
        have cm : wr.cell? ⟨w.heap.size + 1 + 1 + 1, 4 + k, none⟩ = some (.int .u8 0) := by rw [cell_of_row _ _ _ _ _ _ hm.m]; have := hM.reg k hlt; simpa [mpart] using this
        have cf : wr.frozen? ⟨w.heap.size + 1 + 1 + 1, 4 + k, none⟩ = false := frozen_of_row _ _ _ _ _ hm.m
        by_cases hgt : a.r k < b.r k
        · go_wp2
          go_quiet (fail)
          go_wp2
          go_roundw
          case rel => exact ⟨k + 1, _, by omega, by go_num, mpart_reg hlt hM _ _ (by omega), ((hm.set _ _).drewN _).set _ _⟩
          case measure => simp [intOf]; omega
        · go_wp2
          go_quiet (fail)
          go_wp2
          go_roundw
          case rel => exact ⟨k + 1, _, by omega, by go_num, mpart_reg1 hlt hM _ (by omega), (hm.set _ _).drewN _⟩
          case measure => simp [intOf]; omega
      · obtain rfl : k = 16 := by omega
        clear hk hlt
        go_wp2
        go_loopw [7] (fun i wr => ∃ (k : Nat) (M : Array Value), k ≤ 8 ∧ i = .int .i64 k ∧ IsSk M (mpart a b 16 k) ∧ MW w wr A B M) (fun i _ => 8 - (intOf i).toNat)
        case atStart => exact ⟨0, M, by omega, rfl, hM, hm⟩
        case round =>
          clear hM hm
          obtain ⟨k, M, hk, rfl, hM, hm⟩ := hrel
          by_cases hlt : k < 8
          · have ca : wr.cell? ⟨w.heap.size, 20 + k, none⟩ = some (.int .u8 (a.h k)) := by rw [cell_of_row _ _ _ _ _ _ hm.a]; exact hA.hist k hlt
            have cb : wr.cell? ⟨w.heap.size + 1, 20 + k, none⟩ = some (.int .u8 (b.h k)) := by rw [cell_of_row _ _ _ _ _ _ hm.b]; exact hB.hist k hlt
            have cm : wr.cell? ⟨w.heap.size + 1 + 1 + 1, 20 + k, none⟩ = some (.int .u8 0) := by rw [cell_of_row _ _ _ _ _ _ hm.m]; have := hM.hist k hlt; simpa [mpart] using this
            have cf : wr.frozen? ⟨w.heap.size + 1 + 1 + 1, 20 + k, none⟩ = false := frozen_of_row _ _ _ _ _ hm.m
            have h1 := oka.h0 k
            have h2 := oka.h1 k
            have h3 := okb.h0 k
            have h4 := okb.h1 k
            have hi0 : (0 : Int) ≤ (k : Int) := by omega
            have hi1 : (k : Int) < 8 := by omega
            have e1 : IntKind.i64.wrap (a.h k) = a.h k := IntWalk.i64_in _ ⟨by omega, by omega⟩
            have e2 : IntKind.i64.wrap (b.h k) = b.h k := IntWalk.i64_in _ ⟨by omega, by omega⟩
            have e3 : IntKind.u8.wrap (min (a.h k + b.h k) 255) = min (a.h k + b.h k) 255 := IntWalk.u8_in _ ⟨by omega, by omega⟩
            go_wp2
            go_region_held3 (fun w' => w'.cell? ⟨w.heap.size, 20 + k, none⟩ = some (.int .u8 (a.h k)) ∧ w'.cell? ⟨w.heap.size + 1, 20 + k, none⟩ = some (.int .u8 (b.h k))) (first | (exact ⟨cell_set_drew (by omega) (by assumption), cell_set_drew (by omega) (by assumption)⟩) | go_keep) ((go_at_call 63; refine (sumUpTo_any _ _ _ _ (by omega) (by omega) (by omega) (by omega)).mono ?_; rintro e w' ⟨rfl, rfl⟩))
            go_wp2
            go_roundw
            case rel =>
              repeat apply Exists.intro
              exact ⟨⟨k + 1, _, by omega, by go_num, mpart_hist hlt hM _ rfl, (hm.set _ _).drew⟩, rfl⟩
            case measure => simp [intOf]; omega
          · obtain rfl : k = 8 := by omega
            obtain ⟨Z', hz1, hz2⟩ := hm.z
            have hm' := hm.m
            have hend := mpart_end hM
            go_wp2_with (first | (refine load_sk rfl _ rfl _ rfl M _ hM hm' ?_) | (refine store_sk rfl _ _ rfl M _ rfl rfl hM hz2 hz1 ?_))
            refine bodyPost_ret (results_sk rfl _ _ _ M _ hM rfl (setRow_blk hz2)) rfl ⟨M, rfl, hend, below_setRow _ hm.below (by omega)⟩

end Go.Proofs.Ytpglbakcjihohaa
