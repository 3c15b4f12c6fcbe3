/-
  What the document's Merge answers for every two sketches whose fields fit their kinds: field by field what P3 says; nothing old in memory is turned.
-/
import Derived.Test.YtpglbakcjihohaaMerge
namespace Go.Proofs.Ytpglbakcjihohaa
open Go.RowKit

set_option maxHeartbeats 400000 in
theorem atMost_any (n l : Int) (w : World) :
    Calls Try.prog 40 #[.int .i64 n, .int .i64 l] w fun e w' => e = .returned (.int .i64 (min n l)) ∧ w' = w := by
  by_cases h : l < n
  · have H : Hid (min n l = l) := by show _ = _; omega
    generalize min n l = m at H ⊢
    go_enter Try.func40, Try.ntmps40
    go_wp2
    go_ret
    exact ⟨ret_int H.out.symm, rfl⟩
  · have H : Hid (min n l = n) := by show _ = _; omega
    generalize min n l = m at H ⊢
    go_enter Try.func40, Try.ntmps40
    go_wp2
    go_ret
    exact ⟨ret_int H.out.symm, rfl⟩

/-- What is known of the sketch that the document's Merge makes when k registers and h buckets are done. -/
def rpart (a b : Sk) (k h : Nat) : Sk := ⟨min (a.c + b.c) 65535, (a.s + b.s) % 4294967296, min a.l b.l, max a.g b.g, fun j => if j < k then max (a.r j) (b.r j) else a.r j, fun j => if j < h then min (a.h j + b.h j) 255 else a.h j⟩
theorem rmerge_start {a b : Sk} {A B Z M : Array Value} {w : World} {c s L G : Int} (hZ : Z.size = 28) (hM : IsSk M ⟨c, s, L, G, a.r, a.h⟩) (hc : c = min (a.c + b.c) 65535) (hs : s = (a.s + b.s) % 4294967296) (hL : L = min a.l b.l) (hG : G = max a.g b.g) :
    ∃ (k : Nat) (M' : Array Value), k ≤ 16 ∧ Value.int .i64 0 = .int .i64 k ∧ IsSk M' (rpart a b k 0) ∧
      MW w ((((w.alloc (.cells A 27)).alloc (.cells B 27)).alloc (.cells Z 27)).alloc (.cells M 27)) A B M' :=
  ⟨0, M, by omega, rfl, hM.congr hc hs hL hG (fun j _ => by simp [rpart]) (fun j _ => by simp [rpart]), MW.start hZ⟩
theorem rpart_reg {a b : Sk} {k : Nat} {M : Array Value} (hk : k < 16) (h : IsSk M (rpart a b k 0)) (v : Int) (hv : v = max (a.r k) (b.r k)) : IsSk (M.setIfInBounds (4 + k) (.int .u8 v)) (rpart a b (k + 1) 0) :=
  (h.setReg k hk v).congr rfl rfl rfl rfl (fun j hj => by
    by_cases e : j = k
    · subst e; simp [rpart, hv]
    · simp [rpart, e, show j < k + 1 ↔ j < k by omega]) (fun _ _ => rfl)
theorem rpart_reg0 {a b : Sk} {k : Nat} {M : Array Value} (h : IsSk M (rpart a b k 0)) (hv : a.r k = max (a.r k) (b.r k)) : IsSk M (rpart a b (k + 1) 0) :=
  h.congr rfl rfl rfl rfl (fun j hj => by
    by_cases e : j = k
    · subst e; simp [rpart]; omega
    · simp [rpart, show j < k + 1 ↔ j < k by omega]) (fun _ _ => rfl)
theorem rpart_hist {a b : Sk} {h : Nat} {M : Array Value} (hk : h < 8) (hM : IsSk M (rpart a b 16 h)) (v : Int) (hv : v = min (a.h h + b.h h) 255) : IsSk (M.setIfInBounds (20 + h) (.int .u8 v)) (rpart a b 16 (h + 1)) :=
  (hM.setHist h hk v).congr rfl rfl rfl rfl (fun _ _ => rfl) (fun j hj => by
    by_cases e : j = h
    · subst e; simp [rpart, hv]
    · simp [rpart, e, show j < h + 1 ↔ j < h by omega])
theorem rpart_end {a b : Sk} {M : Array Value} (hM : IsSk M (rpart a b 16 8)) : IsSk M (mrg a b) :=
  hM.congr rfl rfl rfl rfl (fun j hj => by simp [rpart, mrg, hj]) (fun j hj => by simp [rpart, mrg, hj])

set_option maxHeartbeats 4000000 in
theorem rmerge_any (a b : Sk) (A B : Array Value) (hA : IsSk A a) (hB : IsSk B b) (oka : a.Ok) (okb : b.Ok) (w : World) :
    Calls Try.prog 17 #[.agg A, .agg B] w fun e w' => ∃ M, e = .returned (.agg M) ∧ IsSk M (mrg a b) ∧ Below w.heap.size w w' := by
  have a0 := hA.get0
  have a1 := hA.get1
  have a2 := hA.get2
  have a3 := hA.get3
  have b0 := hB.get0
  have b1 := hB.get1
  have b2 := hB.get2
  have b3 := hB.get3
  have := oka.c0
  have := oka.c1
  have := okb.c0
  have := okb.c1
  have := oka.s0
  have := oka.s1
  have := okb.s0
  have := okb.s1
  have g1 := heap_alloc_new w (.cells A 27)
  by_cases hl : b.l < a.l <;> by_cases hg : a.g < b.g
  all_goals
    go_enter Try.func17, Try.ntmps17
    go_wp2_with (first | (refine alloc_sk rfl rfl ?_; intro Z hZ) | (refine load_sk rfl _ rfl _ rfl A _ hA (blk_old (blk_old g1)) ?_) | (refine store_sk_new rfl _ _ rfl A _ _ rfl rfl (by simp) hA (by assumption) ?_) | (go_at_call 40; refine (atMost_any _ _ _).mono ?_; rintro e w' ⟨rfl, rfl⟩))
    clear a0 a1 a2 a3 b0 b1 b2 b3 g1
    go_loopw [6] (fun i wr => ∃ (k : Nat) (M : Array Value), k ≤ 16 ∧ i = .int .i64 k ∧ IsSk M (rpart a b k 0) ∧ MW w wr A B M) (fun i _ => 16 - (intOf i).toNat)
    case atStart => exact rmerge_start (IsSk.size (s := Sk.zero) (by assumption)) (by first | exact (((hA.setC _).setS _).setL _).setG _ | exact ((hA.setC _).setS _).setL _ | exact ((hA.setC _).setS _).setG _ | exact (hA.setC _).setS _) rfl rfl (by first | omega | (dsimp only; omega)) (by first | omega | (dsimp only; omega))
    case round =>
      obtain ⟨k, M, hk, rfl, hM, hm⟩ := hrel
      by_cases hlt : k < 16
      · have ca : wr.cell? ⟨w.heap.size, 4 + k, none⟩ = some (.int .u8 (a.r k)) := by rw [cell_of_row _ _ _ _ _ _ hm.a]; exact hA.reg k hlt
        have cb : wr.cell? ⟨w.heap.size + 1, 4 + k, none⟩ = some (.int .u8 (b.r k)) := by rw [cell_of_row _ _ _ _ _ _ hm.b]; exact hB.reg k hlt
        have cm : wr.cell? ⟨w.heap.size + 1 + 1 + 1, 4 + k, none⟩ = some (.int .u8 (a.r k)) := by rw [cell_of_row _ _ _ _ _ _ hm.m]; have := hM.reg k hlt; simpa [rpart] using this
        have cf : wr.frozen? ⟨w.heap.size + 1 + 1 + 1, 4 + k, none⟩ = false := frozen_of_row _ _ _ _ _ hm.m
        by_cases hgt : a.r k < b.r k
        · go_wp2
          go_quiet (fail)
          go_wp2
          go_roundw
          case rel => exact ⟨k + 1, _, by omega, by go_num, rpart_reg hlt hM _ (by omega), (hm.drewN _).set _ _⟩
          case measure => simp [intOf]; omega
        · go_wp2
          go_quiet (fail)
          go_wp2
          go_roundw
          case rel => exact ⟨k + 1, M, by omega, by go_num, rpart_reg0 hM (by omega), hm.drewN _⟩
          case measure => simp [intOf]; omega
      · obtain rfl : k = 16 := by omega
        clear hk hlt
        go_wp2
        go_loopw [7] (fun i wr => ∃ (k : Nat) (M : Array Value), k ≤ 8 ∧ i = .int .i64 k ∧ IsSk M (rpart a b 16 k) ∧ MW w wr A B M) (fun i _ => 8 - (intOf i).toNat)
        case atStart => exact ⟨0, M, by omega, rfl, hM, hm⟩
        case round =>
          clear hM hm
          obtain ⟨k, M, hk, rfl, hM, hm⟩ := hrel
          by_cases hlt : k < 8
          · have ca : wr.cell? ⟨w.heap.size, 20 + k, none⟩ = some (.int .u8 (a.h k)) := by rw [cell_of_row _ _ _ _ _ _ hm.a]; exact hA.hist k hlt
            have cb : wr.cell? ⟨w.heap.size + 1, 20 + k, none⟩ = some (.int .u8 (b.h k)) := by rw [cell_of_row _ _ _ _ _ _ hm.b]; exact hB.hist k hlt
            have cm : wr.cell? ⟨w.heap.size + 1 + 1 + 1, 20 + k, none⟩ = some (.int .u8 (a.h k)) := by rw [cell_of_row _ _ _ _ _ _ hm.m]; have := hM.hist k hlt; simpa [rpart] using this
            have cf : wr.frozen? ⟨w.heap.size + 1 + 1 + 1, 20 + k, none⟩ = false := frozen_of_row _ _ _ _ _ hm.m
            have h1 := oka.h0 k
            have h2 := oka.h1 k
            have h3 := okb.h0 k
            have h4 := okb.h1 k
            have hi0 : (0 : Int) ≤ (k : Int) := by omega
            have hi1 : (k : Int) < 8 := by omega
            have e1 : IntKind.i64.wrap (a.h k) = a.h k := IntWalk.i64_in _ ⟨by omega, by omega⟩
            have e2 : IntKind.i64.wrap (b.h k) = b.h k := IntWalk.i64_in _ ⟨by omega, by omega⟩
            have e3 : IntKind.u8.wrap (min (a.h k + b.h k) 255) = min (a.h k + b.h k) 255 := IntWalk.u8_in _ ⟨by omega, by omega⟩
            have e4 : IntKind.i64.wrap (a.h k + b.h k) = a.h k + b.h k := IntWalk.i64_in _ ⟨by omega, by omega⟩
            go_wp2
            go_region_held3 (fun w' => w'.cell? ⟨w.heap.size, 20 + k, none⟩ = some (.int .u8 (a.h k)) ∧ w'.cell? ⟨w.heap.size + 1, 20 + k, none⟩ = some (.int .u8 (b.h k))) (first | (exact ⟨cell_set_drew (by omega) (by assumption), cell_set_drew (by omega) (by assumption)⟩) | go_keep) ((go_at_call 40; refine (atMost_any _ _ _).mono ?_; rintro e w' ⟨rfl, rfl⟩))
            go_wp2
            go_roundw
            case rel =>
              repeat apply Exists.intro
              exact ⟨⟨k + 1, _, by omega, by go_num, rpart_hist hlt hM _ rfl, (hm.set _ _).drew⟩, rfl⟩
            case measure => simp [intOf]; omega
          · obtain rfl : k = 8 := by omega
            obtain ⟨Z', hz1, hz2⟩ := hm.z
            have hm' := hm.m
            have hend := rpart_end hM
            go_wp2_with (first | (refine load_sk rfl _ rfl _ rfl M _ hM hm' ?_) | (refine store_sk rfl _ _ rfl M _ rfl rfl hM hz2 hz1 ?_))
            refine bodyPost_ret (results_sk rfl _ _ _ M _ hM rfl (setRow_blk hz2)) rfl ⟨M, rfl, hend, below_setRow _ hm.below (by omega)⟩

end Go.Proofs.Ytpglbakcjihohaa
