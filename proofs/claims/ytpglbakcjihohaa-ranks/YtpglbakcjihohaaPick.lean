/-
  What 'pick' and 'all' answer; what a rank is, that it rises with the part; that Distinct rises with the registers.
-/
import Derived.Test.YtpglbakcjihohaaRows
import Derived.Test.YtpglbakcjihohaaSkLaws
import Derived.Test.YtpglbakcjihohaaTell
namespace Go.Proofs.Ytpglbakcjihohaa
open Go.RowKit
set_option maxRecDepth 100000

def pk (c n : Int) : Int := if c < 0 then (-(c + 1)) % n else c % n
theorem pk_bd (c n : Int) (hn : 1 ≤ n) : 0 ≤ pk c n ∧ pk c n < n := by
  unfold pk
  split
  · exact ⟨Int.emod_nonneg _ (by omega), Int.emod_lt_of_pos _ (by omega)⟩
  · exact ⟨Int.emod_nonneg _ (by omega), Int.emod_lt_of_pos _ (by omega)⟩
theorem ret_i64 {a b : Int} (h : a = b) : Ending.returned (.int .i64 a) = .returned (.int .i64 b) := by rw [h]
set_option maxHeartbeats 400000 in
theorem pick_any (c n : Int) (w : World) (h0 : -9223372036854775808 ≤ c) (h1 : c ≤ 9223372036854775807) (hn : 1 ≤ n) (hn1 : n ≤ 9223372036854775807) :
    Calls Try.prog 24 #[.int .i64 c, .int .i64 n] w fun e w' => e = .returned (.int .i64 (pk c n)) ∧ w' = w := by
  have hz : (n == 0) = false := by simp; omega
  have hb := pk_bd c n hn
  by_cases h : c < 0
  · have H : Hid (pk c n = (-(c + 1)) % n) := by unfold pk; exact if_pos h
    have hb1 : 0 ≤ (-(c + 1)) % n ∧ (-(c + 1)) % n < n := by rw [← H.out]; exact hb
    have ht : Hid ((-(c + 1)).tmod n = (-(c + 1)) % n) := Int.tmod_eq_emod_of_nonneg (by omega)
    go_enter Try.func24, Try.ntmps24
    go_wp2
    go_ret
    refine ⟨ret_i64 ?_, rfl⟩
    rw [H.out]
    show -((c + 1).tmod n) = _
    rw [← Int.neg_tmod]
    exact ht.out
  · have H : Hid (pk c n = c % n) := by unfold pk; exact if_neg h
    have hb1 : 0 ≤ c % n ∧ c % n < n := by rw [← H.out]; exact hb
    go_enter Try.func24, Try.ntmps24
    go_wp2
    go_ret
    refine ⟨ret_i64 ?_, rfl⟩
    rw [H.out]
set_option maxHeartbeats 400000 in
theorem all_any (s : Sk) (A : Array Value) (hA : IsSk A s) (n : Nat) (hn : n ≤ 8) (w : World) (ok : s.Ok) :
    Calls Try.prog 25 #[.agg A, .int .i64 n] w fun e w' => e = .returned (.int .i64 (hsum s n)) ∧ Below w.heap.size w w' := by
  have hh0 := ok.h0
  have hh1 := ok.h1
  go_enter Try.func25, Try.ntmps25
  go_wp2
  go_loop [5, 6] (fun t i => ∃ k : Nat, k ≤ n ∧ i = .int .i64 k ∧ t = .int .i64 (hsum s k)) (fun _ i => n - (intOf i).toNat)
  case atStart => exact ⟨0, Nat.zero_le _, rfl, rfl⟩
  case round =>
    obtain ⟨k, hk, rfl, rfl⟩ := hrel
    have hb := hsum_bd s hh0 hh1 k
    by_cases hlt : k < n
    · have hg := hA.hist k (by omega)
      have h1 := hh0 k
      have h2 := hh1 k
      go_wp2
      go_round
      case rel => exact ⟨k + 1, by omega, by go_num, rfl⟩
      case measure => simp [intOf]; omega
    · obtain rfl : k = n := by omega
      go_wp2
      go_ret
      exact ⟨rfl, below_alloc _ _⟩

/-! ### What a rank is -/
theorem rkGo_bd (s : Sk) (need : Int) : ∀ f b, rkGo s need b f ≤ 7 ∨ rkGo s need b f < b + f
  | 0, b => .inl (Nat.le_refl _)
  | f + 1, b => by
    unfold rkGo
    split
    · exact .inr (by omega)
    · rcases rkGo_bd s need f (b + 1) with h | h
      · exact .inl h
      · exact .inr (by omega)
theorem rk_le (s : Sk) (need : Int) : rkGo s need 0 7 ≤ 7 := by rcases rkGo_bd s need 7 0 with h | h <;> omega
/-- The buckets up to the rank have it, those ahead of it have it not. -/
theorem rkGo_is (s : Sk) (need : Int) (h8 : need ≤ 1000 * hsum s 8) : ∀ f b, b + f = 7 → (b = 0 ∨ ¬ need ≤ 1000 * hsum s b) → need ≤ 1000 * hsum s (rkGo s need b f + 1) ∧ (rkGo s need b f = 0 ∨ ¬ need ≤ 1000 * hsum s (rkGo s need b f))
  | 0, b, hb, hx => by
    unfold rkGo
    have : b = 7 := by omega
    subst this
    exact ⟨h8, hx⟩
  | f + 1, b, hb, hx => by
    unfold rkGo
    split
    · rename_i h; exact ⟨h, hx⟩
    · rename_i h; exact rkGo_is s need h8 f (b + 1) (by omega) (.inr h)
theorem rkGo_mono (s : Sk) (n1 n2 : Int) (h : n1 ≤ n2) : ∀ f b, b + f = 7 → rkGo s n1 b f ≤ rkGo s n2 b f
  | 0, _, _ => Nat.le_refl _
  | f + 1, b, hb => by
    unfold rkGo
    by_cases h2 : n2 ≤ 1000 * hsum s (b + 1)
    · rw [if_pos h2, if_pos (by omega)]; exact Nat.le_refl _
    · rw [if_neg h2]
      by_cases h1 : n1 ≤ 1000 * hsum s (b + 1)
      · rw [if_pos h1]
        exact rkGo_ge s n2 f (b + 1) b (by omega) (by omega)
      · rw [if_neg h1]; exact rkGo_mono s n1 n2 h f (b + 1) (by omega)
where
  rkGo_ge (s : Sk) (n : Int) : ∀ f b c, c ≤ b → c ≤ 7 → c ≤ rkGo s n b f
    | 0, _, _, _, h7 => h7
    | f + 1, b, c, hc, h7 => by
      unfold rkGo
      split
      · exact hc
      · exact rkGo_ge s n f (b + 1) c (by omega) h7
theorem clamp_in (p : Int) (h0 : 0 ≤ p) (h1 : p ≤ 1000) : clamp p = p := by unfold clamp; omega

/-! ### Distinct rises with the registers -/
theorem wgt_mono (r : Int) (h0 : 0 ≤ r) : wgt (r + 1) ≤ wgt r := by
  by_cases h : r < 32
  · have := wgt_step r h0 h
    have := (wgt_bd (r + 1) (by omega)).1
    omega
  · rw [wgt_one r (by omega), wgt_one (r + 1) (by omega)]; omega
theorem wsum_mono (s t : Sk) (h : ∀ k, wgt (t.r k) ≤ wgt (s.r k)) : ∀ k, wsum t k ≤ wsum s k
  | 0 => Int.le_refl _
  | k + 1 => by have := h k; have := wsum_mono s t h k; simp only [wsum]; omega
theorem dist_mono (x y : Int) (hy : 1 ≤ y) (h : y ≤ x) : 738734374912 / x ≤ 738734374912 / y := by
  have h1 : 738734374912 / x * x ≤ 738734374912 := Int.ediv_mul_le _ (by omega)
  have h2 : 0 ≤ 738734374912 / x := Int.ediv_nonneg (by omega) (by omega)
  refine Int.le_ediv_of_mul_le (by omega) ?_
  have := Int.mul_le_mul_of_nonneg_left h h2
  omega
theorem dist_ten (x : Int) (h1 : 1 ≤ x) (h : x ≤ 68719476736) : 10 ≤ 738734374912 / x := Int.le_ediv_of_mul_le (by omega) (by omega)
end Go.Proofs.Ytpglbakcjihohaa
