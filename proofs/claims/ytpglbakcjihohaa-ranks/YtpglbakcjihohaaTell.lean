/-
  What Distinct and Rank, the program's and the document's, answer for every sketch whose fields fit their kinds: the same numbers; nothing old in memory is turned.
-/
import Derived.Test.YtpglbakcjihohaaRows
import Derived.Test.YtpglbakcjihohaaBase
import Derived.Deep.QuietTactic
import Derived.BigQuiet
import Derived.Deep.DeepCutAuto
namespace Go.Proofs.Ytpglbakcjihohaa
open Go.RowKit

set_option maxHeartbeats 400000 in
theorem weight_any (r : Int) (w : World) (h0 : 0 ≤ r) (h1 : r ≤ 255) :
    Calls Try.prog 66 #[.int .u8 r] w fun e w' => e = .returned (.int .u64 (wgt r)) ∧ w' = w := by
  by_cases h : 32 < r
  · have H : Hid (wgt r = 1) := by unfold wgt; exact if_pos h
    go_enter Try.func66, Try.ntmps66
    go_wp2
    go_ret
    exact ⟨by rw [H.out]; rfl, rfl⟩
  · have H : Hid (wgt r = 2 ^ (32 - r).toNat) := by unfold wgt; exact if_neg h
    have hb := wgt_bd r h0
    go_enter Try.func66, Try.ntmps66
    go_wp2
    go_ret
    refine ⟨?_, rfl⟩
    show Ending.returned (.int .u64 (IntKind.u64.wrap (2 ^ (32 - r).toNat))) = _
    rw [← H.out]
    congr 2
    simp [IntKind.wrap, IntKind.signed, IntKind.bits]; omega
set_option maxHeartbeats 400000 in
theorem distinct_any (s : Sk) (A : Array Value) (hA : IsSk A s) (w : World) (ok : s.Ok) :
    Calls Try.prog 41 #[.agg A] w fun e w' => e = .returned (.int .u64 (738734374912 / wsum s 16)) ∧ Below w.heap.size w w' := by
  have hsz := hA.size
  have hr := ok.r0
  have hr2 := ok.r1
  have hh0 := ok.h0
  have hh1 := ok.h1
  go_enter Try.func41, Try.ntmps41
  go_wp2
  go_loop [3, 4] (fun t i => ∃ k : Nat, k ≤ 16 ∧ i = .int .i64 k ∧ t = .int .u64 (wsum s k)) (fun _ i => 16 - (intOf i).toNat)
  case atStart => exact ⟨0, Nat.zero_le _, rfl, rfl⟩
  case round =>
    obtain ⟨k, hk, rfl, rfl⟩ := hrel
    have hb := wsum_bd s hr k
    by_cases hlt : k < 16
    · have hg := hA.reg k hlt
      have h1 := hr k
      have h2 := hr2 k
      have hb2 := wsum_bd s hr (k + 1)
      simp only [wsum] at hb2
      go_wp2_with (go_at_call 66; refine (weight_any _ _ (by assumption) (by assumption)).mono ?_; rintro e w' ⟨rfl, rfl⟩)
      go_round
      case rel => exact ⟨k + 1, by omega, by go_num, rfl⟩
      case measure => simp [intOf]; omega
    · obtain rfl : k = 16 := by omega
      go_wp2
      go_ret
      exact ⟨rfl, below_alloc _ _⟩

set_option maxHeartbeats 400000 in
theorem tdistinct_any (s : Sk) (A : Array Value) (hA : IsSk A s) (w : World) (ok : s.Ok) :
    Calls Try.prog 18 #[.agg A] w fun e w' => e = .returned (.int .u64 (738734374912 / wsum s 16)) ∧ Below w.heap.size w w' := by
  have hsz := hA.size
  have hr := ok.r0
  have hr2 := ok.r1
  have hh0 := ok.h0
  have hh1 := ok.h1
  have hi : (Try.prog.info? 27).map (·.size) = some A.size := by rw [hsz]; kernel_rfl
  go_enter Try.func18, Try.ntmps18
  go_wp2_with (first | (refine wpList_load_row rfl 27 _ rfl _ rfl 27 A (0, 0) _ (heap_alloc_new _ _) Try.underlying27 rfl hi ?_) | (go_at_call 41; refine (distinct_any s A hA _ ok).mono ?_; rintro e w1 ⟨rfl, hb⟩))
  go_ret
  exact ⟨rfl, bnext (below_alloc _ _) hb⟩
set_option maxHeartbeats 400000 in
theorem rdistinct_any (s : Sk) (A : Array Value) (hA : IsSk A s) (w : World) (ok : s.Ok) :
    Calls Try.prog 19 #[.agg A] w fun e w' => e = .returned (.int .u64 (738734374912 / wsum s 16)) ∧ Below w.heap.size w w' := by
  have hsz := hA.size
  have hr := ok.r0
  have hr2 := ok.r1
  have hh0 := ok.h0
  have hh1 := ok.h1
  go_enter Try.func19, Try.ntmps19
  go_wp2
  go_loop [3, 4, 5, 6] (fun t i _ _ => ∃ k : Nat, k ≤ 16 ∧ i = .int .i64 k ∧ t = .int .i64 (wsum s k)) (fun _ i _ _ => 16 - (intOf i).toNat)
  case atStart => exact ⟨0, Nat.zero_le _, rfl, rfl⟩
  case round =>
    obtain ⟨k, hk, rfl, rfl⟩ := hrel
    have hb := wsum_bd s hr k
    by_cases hlt : k < 16
    · have hg := hA.reg k hlt
      have h1 := hr k
      have h2 := hr2 k
      have hb2 := wsum_bd s hr (k + 1)
      simp only [wsum] at hb2
      have hw := wgt_bd (s.r k) h1
      go_wp2
      go_loop [5, 6] (fun t u => ∃ p q : Int, 1 ≤ p ∧ 0 ≤ q ∧ q ≤ 255 ∧ Hid (p * wgt q = wgt (s.r k)) ∧ t = .int .i64 p ∧ u = .int .i64 q) (fun _ u => 256 - (intOf u).toNat)
      case atStart => exact ⟨1, s.r k, by omega, h1, h2, by show 1 * _ = _; omega, rfl, rfl⟩
      case round =>
        obtain ⟨p, q, hp, hq0, hq1, HD, rfl, rfl⟩ := hrel
        have hpw := wgt_part p q _ hp hq0 HD.out
        by_cases hq : q < 32
        · go_wp2
          go_round
          case rel => exact ⟨2 * p, q + 1, by omega, by omega, by omega, wgt_next p q _ hq0 HD.out hq, rfl, rfl⟩
          case measure => simp [intOf]; omega
        · have HP : Hid (p = wgt (s.r k)) := by have h := HD.out; rw [wgt_one q (by omega)] at h; show p = _; omega
          go_wp2
          go_round
          case rel => exact ⟨k + 1, by omega, by go_num, by simp only [wsum]; rw [← HP.out]⟩
          case measure => simp [intOf]; omega
    · obtain rfl : k = 16 := by omega
      go_wp2
      have hd := quo_bd (wsum s 16) (by omega)
      go_ret
      exact ⟨congrArg (fun z => Ending.returned (.int .u64 z)) (IntWalk.u64_in _ ⟨hd.1, by omega⟩), below_alloc _ _⟩

theorem within_any (p : Int) (w : World) : Calls Try.prog 67 #[.int .i64 p] w fun e w' => e = .returned (.int .i64 (clamp p)) ∧ w' = w := by
  by_cases h : p < 0
  · have H : Hid (clamp p = 0) := by unfold clamp; exact if_pos h
    go_enter Try.func67, Try.ntmps67
    go_wp2
    go_ret
    exact ⟨by rw [H.out]; rfl, rfl⟩
  · by_cases h' : 1000 < p
    · have H : Hid (clamp p = 1000) := by unfold clamp; rw [if_neg h]; exact if_pos h'
      go_enter Try.func67, Try.ntmps67
      go_wp2
      go_ret
      exact ⟨by rw [H.out]; rfl, rfl⟩
    · have H : Hid (clamp p = p) := by unfold clamp; rw [if_neg h]; exact if_neg h'
      go_enter Try.func67, Try.ntmps67
      go_wp2
      go_ret
      exact ⟨by rw [H.out]; rfl, rfl⟩
set_option maxHeartbeats 400000 in
theorem rank_any (s : Sk) (A : Array Value) (hA : IsSk A s) (p : Int) (w : World) (ok : s.Ok) :
    Calls Try.prog 42 #[.agg A, .int .i64 p] w fun e w' => e = .returned (.int .i64 (rank s p)) ∧ Below w.heap.size w w' := by
  have hsz := hA.size
  have hr := ok.r0
  have hr2 := ok.r1
  have hh0 := ok.h0
  have hh1 := ok.h1
  go_enter Try.func42, Try.ntmps42
  go_wp2
  go_loop [5, 6] (fun t i => ∃ k : Nat, k ≤ 8 ∧ i = .int .i64 k ∧ t = .int .i64 (hsum s k)) (fun _ i => 8 - (intOf i).toNat)
  case atStart => exact ⟨0, Nat.zero_le _, rfl, rfl⟩
  case round =>
    obtain ⟨k, hk, rfl, rfl⟩ := hrel
    have hb := hsum_bd s hh0 hh1 k
    by_cases hlt : k < 8
    · have hg := hA.hist k hlt
      have h1 := hh0 k
      have h2 := hh1 k
      go_wp2
      go_round
      case rel => exact ⟨k + 1, by omega, by go_num, rfl⟩
      case measure => simp [intOf]; omega
    · obtain rfl : k = 8 := by omega
      have hc := clamp_bd p
      have hn := need_bd _ _ hc.1 hc.2 hb.1 (by omega)
      go_wp2_with (go_at_call 67; refine (within_any _ _).mono ?_; rintro e w' ⟨rfl, rfl⟩)
      go_loop [8, 9] (fun t i => ∃ k : Nat, k ≤ 7 ∧ i = .int .i64 k ∧ t = .int .i64 (hsum s k) ∧ Hid (rank s p = rkGo s (clamp p * hsum s 8) k (7 - k))) (fun _ i => 7 - (intOf i).toNat)
      case atStart => exact ⟨0, Nat.zero_le _, rfl, rfl, rfl⟩
      case round =>
        obtain ⟨k, hk, rfl, rfl, HR⟩ := hrel
        have hb' := hsum_bd s hh0 hh1 k
        by_cases hlt : k < 7
        · have hg := hA.hist k (by omega)
          have h1 := hh0 k
          have h2 := hh1 k
          by_cases hd : clamp p * hsum s 8 ≤ (hsum s k + s.h k) * 1000
          · go_wp2
            go_ret
            exact ⟨by rw [HR.out, rk_hit s (clamp p * hsum s 8) k hlt (by rw [hsum_succ s k]; omega)]; rfl, below_alloc _ _⟩
          · go_wp2
            go_round
            case rel => exact ⟨k + 1, by omega, by go_num, rfl, by show rank s p = _; rw [HR.out, rk_miss s (clamp p * hsum s 8) k hlt (by rw [hsum_succ s k]; omega)]⟩
            case measure => simp [intOf]; omega
        · obtain rfl : k = 7 := by omega
          go_wp2
          go_ret
          exact ⟨by rw [HR.out]; rfl, below_alloc _ _⟩
set_option maxHeartbeats 400000 in
theorem trank_any (s : Sk) (A : Array Value) (hA : IsSk A s) (p : Int) (w : World) (ok : s.Ok) :
    Calls Try.prog 20 #[.agg A, .int .i64 p] w fun e w' => e = .returned (.int .i64 (rank s p)) ∧ Below w.heap.size w w' := by
  have hsz := hA.size
  have hr := ok.r0
  have hr2 := ok.r1
  have hh0 := ok.h0
  have hh1 := ok.h1
  have hi : (Try.prog.info? 27).map (·.size) = some A.size := by rw [hsz]; kernel_rfl
  go_enter Try.func20, Try.ntmps20
  go_wp2_with (first | (refine wpList_load_row rfl 27 _ rfl _ rfl 27 A (0, 0) _ (heap_alloc_new _ _) Try.underlying27 rfl hi ?_) | (go_at_call 42; refine (rank_any s A hA _ _ ok).mono ?_; rintro e w1 ⟨rfl, hb⟩))
  go_ret
  exact ⟨rfl, bnext (below_alloc _ _) hb⟩
set_option maxHeartbeats 400000 in
theorem rrank_any (s : Sk) (A : Array Value) (hA : IsSk A s) (p : Int) (w : World) (ok : s.Ok) :
    Calls Try.prog 21 #[.agg A, .int .i64 p] w fun e w' => e = .returned (.int .i64 (rank s p)) ∧ Below w.heap.size w w' := by
  have hsz := hA.size
  have hr := ok.r0
  have hr2 := ok.r1
  have hh0 := ok.h0
  have hh1 := ok.h1
  go_enter Try.func21, Try.ntmps21
  go_upto_if 10 with fail
  go_cut [1] (fun c w' => ∃ q : Int, c = .int .i64 q ∧ 0 ≤ q ∧ Hid (clamp q = clamp p) ∧ w' = w.alloc (.cells A 27))
  case first =>
    go_wp2
    · go_meet
      exact ⟨0, rfl, by omega, by show clamp 0 = clamp p; unfold clamp; omega, rfl⟩
    · go_meet
      exact ⟨p, rfl, by omega, rfl, rfl⟩
  case rest =>
    obtain ⟨q, rfl, hq, HQ, rfl⟩ := hcut
    go_upto_if 12 with fail
    go_cut [1] (fun c w' => ∃ r : Int, c = .int .i64 r ∧ 0 ≤ r ∧ r ≤ 1000 ∧ Hid (r = clamp p) ∧ w' = w.alloc (.cells A 27))
    case first =>
      go_wp2
      · go_meet
        exact ⟨1000, rfl, by omega, by omega, by show 1000 = clamp p; rw [← HQ.out]; unfold clamp; omega, rfl⟩
      · go_meet
        exact ⟨q, rfl, by omega, by omega, by show q = clamp p; rw [← HQ.out]; unfold clamp; omega, rfl⟩
    case rest =>
      obtain ⟨c, rfl, hc0, hc1, HC, rfl⟩ := hcut
      clear hq HQ
      go_wp2
      go_loop [5, 6] (fun t i => ∃ k : Nat, k ≤ 8 ∧ i = .int .i64 k ∧ t = .int .i64 (hsum s k)) (fun _ i => 8 - (intOf i).toNat)
      case atStart => exact ⟨0, Nat.zero_le _, rfl, rfl⟩
      case round =>
        obtain ⟨k, hk, rfl, rfl⟩ := hrel
        have hb := hsum_bd s hh0 hh1 k
        by_cases hlt : k < 8
        · have hg := hA.hist k hlt
          have h1 := hh0 k
          have h2 := hh1 k
          go_wp2
          go_round
          case rel => exact ⟨k + 1, by omega, by go_num, rfl⟩
          case measure => simp [intOf]; omega
        · obtain rfl : k = 8 := by omega
          have hn := need_bd _ _ hc0 hc1 hb.1 (by omega)
          have HS : Hid (rank s p = rkGo s (c * hsum s 8) 0 7) := by rw [HC.out]; rfl
          go_wp2
          go_loop [7, 8] (fun t i => ∃ k : Nat, k ≤ 8 ∧ i = .int .i64 k ∧ t = .int .i64 (hsum s k) ∧ Hid (rank s p = rkGo s (c * hsum s 8) k (7 - k))) (fun _ i => 8 - (intOf i).toNat)
          case atStart => exact ⟨0, Nat.zero_le _, rfl, rfl, HS⟩
          case round =>
            obtain ⟨k, hk, rfl, rfl, HR⟩ := hrel
            have hb' := hsum_bd s hh0 hh1 k
            by_cases hlt : k < 8
            · have hg := hA.hist k (by omega)
              have h1 := hh0 k
              have h2 := hh1 k
              by_cases hd : c * hsum s 8 ≤ 1000 * (hsum s k + s.h k)
              · go_wp2
                go_ret
                exact ⟨by
                  by_cases h7 : k = 7
                  · subst h7; rw [HR.out]; rfl
                  · rw [HR.out, rk_hit s (c * hsum s 8) k (by omega) (by rw [hsum_succ s k]; omega)]; rfl, below_alloc _ _⟩
              · go_wp2
                go_round
                case rel => exact ⟨k + 1, by omega, by go_num, rfl, by
                  show rank s p = _
                  by_cases h7 : k = 7
                  · subst h7; rw [HR.out]; rfl
                  · rw [HR.out, rk_miss s (c * hsum s 8) k (by omega) (by rw [hsum_succ s k]; omega)]⟩
                case measure => simp [intOf]; omega
            · obtain rfl : k = 8 := by omega
              go_wp2
              go_ret
              exact ⟨by rw [HR.out]; rfl, below_alloc _ _⟩


end Go.Proofs.Ytpglbakcjihohaa
