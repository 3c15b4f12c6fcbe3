/-
  What Hash, register, bucket, noughts and their like answer, the program's and the document's, for every key and every number of their kinds.
-/
import Derived.Test.YtpglbakcjihohaaRows
import Derived.Test.YtpglbakcjihohaaHMath
import Derived.Deep.QuietTactic
import Derived.BigQuiet
namespace Go.Proofs.Ytpglbakcjihohaa
open Go.RowKit

theorem ret_num {k : IntKind} {a b : Int} (h : a = b) : Ending.returned (.int k a) = .returned (.int k b) := by rw [h]
set_option maxHeartbeats 400000 in
theorem hash_any (s : ByteArray) (w : World) (hs : s.size ≤ maxLen) :
    Calls Try.prog 34 #[.string s] w fun e w' => e = .returned (.int .u32 (hash s.data.toList)) ∧ w' = w := by
  unfold maxLen at hs
  go_enter Try.func34, Try.ntmps34
  go_wp2
  go_loop [3, 4] (fun t i => ∃ k H : Nat, k ≤ s.size ∧ H < 4294967296 ∧ Hid (H = hash (s.data.toList.take k)) ∧ i = .int .i64 k ∧ t = .int .u32 H) (fun _ i => s.size - (intOf i).toNat)
  case atStart => exact ⟨0, h0, Nat.zero_le _, h0_lt, rfl, rfl, rfl⟩
  case round =>
    obtain ⟨k, H, hk, hH, HD, rfl, rfl⟩ := hrel
    by_cases hlt : k < s.size
    · have HS : Hid (hash (s.data.toList.take (k + 1)) = hstep H s[k].toNat) := by show _ = _; rw [hash_take s k hlt, ← HD.out]
      have hb : s[k].toNat < 256 := UInt8.toNat_lt _
      have hx := u32_xor_nat H s[k].toNat hH (by omega)
      go_wp2
      go_round
      case rel => exact ⟨k + 1, hstep H s[k].toNat, by omega, hstep_lt _ _, HS.out.symm, by go_num, by simp [hstep]⟩
      case measure => simp [intOf]; omega
    · go_wp2
      go_ret
      exact ⟨ret_num (by rw [HD.out, hash_all s k (by omega)]), rfl⟩

theorem quo_le (h p : Nat) : 0 ≤ (h : Int) / (p : Int) ∧ (h : Int) / (p : Int) ≤ h := by
  have := Nat.div_le_self h p
  constructor
  · exact Int.ediv_nonneg (by omega) (by omega)
  · rw [← Int.natCast_ediv]; omega
theorem div_bit (h p : Nat) : ((h : Int) / (p : Int)) % 2 = ((h / p % 2 : Nat) : Int) := by simp
set_option maxHeartbeats 400000 in
theorem bucket_any (v : Int) (w : World) (h0 : -2147483648 ≤ v) (h1 : v ≤ 2147483647) :
    Calls Try.prog 85 #[.int .i32 v] w fun e w' => e = .returned (.int .i64 (bkt v)) ∧ w' = w := by
  go_enter Try.func85, Try.ntmps85
  go_wp2
  go_loop [0, 3] (fun t i => ∃ (u : Int) (k : Nat), u ≤ 2147483647 ∧ -2147483648 ≤ u ∧ k ≤ 31 ∧ Hid (k + nb u.toNat = nb v.toNat) ∧ t = .int .i32 u ∧ i = .int .i64 k) (fun t _ => (intOf t).toNat)
  case atStart => exact ⟨v, 0, h1, h0, by omega, by show 0 + _ = _; omega, rfl, rfl⟩
  case round =>
    obtain ⟨u, k, hu1, hu0, hk, HD, rfl, rfl⟩ := hrel
    by_cases hlt : 0 < u
    · have e1 := nb_step u.toNat (by omega)
      have e2 : u.toNat / 2 = (u / 2).toNat := by omega
      have e3 := (nb_le v.toNat 31).2 (by omega)
      have HN : Hid (k + 1 + nb (u / 2).toNat = nb v.toNat) := by have := HD.out; show _ = _; rw [← e2]; omega
      have hk' : k < 31 := by have := HD.out; omega
      clear e1 e2 e3
      go_wp2
      go_round
      case rel => exact ⟨u / 2, k + 1, by omega, by omega, by omega, HN, rfl, by go_num⟩
      case measure => simp [intOf]; omega
    · have HN : Hid (k = nb v.toNat) := by
        have := HD.out
        rw [show u.toNat = 0 by omega] at this
        exact this
      go_wp2
      go_ret
      refine ⟨ret_num ?_, rfl⟩
      unfold bkt
      rw [← HN.out]
      omega
set_option maxHeartbeats 400000 in
theorem rbucket_any (v : Int) (w : World) (h0 : -2147483648 ≤ v) (h1 : v ≤ 2147483647) :
    Calls Try.prog 65 #[.int .i64 v] w fun e w' => e = .returned (.int .i64 (bkt v)) ∧ w' = w := by
  go_enter Try.func65, Try.ntmps65
  go_wp2
  go_loop [0, 3] (fun t i => ∃ (u : Int) (k : Nat), u ≤ 2147483647 ∧ -2147483648 ≤ u ∧ k ≤ 31 ∧ Hid (k + nb u.toNat = nb v.toNat) ∧ t = .int .i64 u ∧ i = .int .i64 k) (fun t _ => (intOf t).toNat)
  case atStart => exact ⟨v, 0, h1, h0, by omega, by show 0 + _ = _; omega, rfl, rfl⟩
  case round =>
    obtain ⟨u, k, hu1, hu0, hk, HD, rfl, rfl⟩ := hrel
    by_cases hlt : 0 < u
    · have e1 := nb_step u.toNat (by omega)
      have e2 : u.toNat / 2 = (u / 2).toNat := by omega
      have e3 := (nb_le v.toNat 31).2 (by omega)
      have HN : Hid (k + 1 + nb (u / 2).toNat = nb v.toNat) := by have := HD.out; show _ = _; rw [← e2]; omega
      have hk' : k < 31 := by have := HD.out; omega
      clear e1 e2 e3
      go_wp2
      go_round
      case rel => exact ⟨u / 2, k + 1, by omega, by omega, by omega, HN, rfl, by go_num⟩
      case measure => simp [intOf]; omega
    · have HN : Hid (k = nb v.toNat) := by
        have := HD.out
        rw [show u.toNat = 0 by omega] at this
        exact this
      go_wp2
      go_ret
      refine ⟨ret_num ?_, rfl⟩
      unfold bkt
      rw [← HN.out]
      omega
set_option maxHeartbeats 400000 in
theorem noughts_any (h : Nat) (w : World) (hh : h < 4294967296) :
    Calls Try.prog 64 #[.int .i64 h] w fun e w' => e = .returned (.int .i64 (nts h)) ∧ w' = w := by
  go_enter Try.func64, Try.ntmps64
  go_wp2
  go_loop [3, 4] (fun t i => ∃ (k p : Nat), k ≤ 28 ∧ Hid (p = 2 ^ (31 - k)) ∧ 0 < p ∧ p ≤ 2147483648 ∧ Hid (nts h = ntsGo h k (28 - k)) ∧ t = .int .i64 k ∧ i = .int .i64 p) (fun t _ => 28 - (intOf t).toNat)
  case atStart => exact ⟨0, 2147483648, by omega, rfl, by omega, by omega, rfl, rfl, rfl⟩
  case round =>
    obtain ⟨k, p, hk, HP, hp0, hp1, HD, rfl, rfl⟩ := hrel
    by_cases hlt : k < 28
    · have hp8 : 8 < p := by
        rw [HP.out]
        have := Nat.pow_le_pow_right (n := 2) (by omega) (show 4 ≤ 31 - k by omega)
        omega
      have hq := quo_le h p
      by_cases hb : h / p % 2 = 1
      · have hb' : ((h : Int) / (p : Int) % 2 == 1) = true := by rw [div_bit h p, hb]; rfl
        go_wp2
        go_ret
        exact ⟨ret_num (by rw [HD.out, nts_hit h k hlt (by rw [← HP.out]; exact hb)]), rfl⟩
      · have hb0 : h / p % 2 = 0 := by omega
        have hb' : ((h : Int) / (p : Int) % 2 == 1) = false := by rw [div_bit h p, hb0]; rfl
        have HP2 : Hid (p / 2 = 2 ^ (31 - (k + 1))) := by
          show _ = _
          rw [HP.out, show 31 - k = (31 - (k + 1)) + 1 by omega, Nat.pow_succ]; omega
        go_wp2
        go_round
        case rel => exact ⟨k + 1, p / 2, by omega, HP2, by omega, by omega, by show nts h = _; rw [HD.out, nts_miss h k hlt (by rw [← HP.out]; exact hb)], by go_num, by go_num⟩
        case measure => simp [intOf]; omega
    · obtain rfl : k = 28 := by omega
      have hp8 : p = 8 := by rw [HP.out]
      subst hp8
      go_wp2
      go_ret
      exact ⟨ret_num (by rw [HD.out]; rfl), rfl⟩
set_option maxHeartbeats 400000 in
theorem register_any (h : Nat) (w : World) (hh : h < 4294967296) :
    Calls Try.prog 84 #[.int .u32 h] w fun e w' => e = .returned (.int .u8 ((nts h + 1 : Nat) : Int)) ∧ w' = w := by
  go_enter Try.func84, Try.ntmps84
  go_wp2
  go_loop [3, 4] (fun t i => ∃ (k p : Nat), k ≤ 28 ∧ Hid (p = 2 ^ (31 - k)) ∧ 0 < p ∧ p ≤ 2147483648 ∧ Hid (nts h = ntsGo h k (28 - k)) ∧ t = .int .u8 ((k + 1 : Nat) : Int) ∧ i = .int .u32 p) (fun t _ => 30 - (intOf t).toNat)
  case atStart => exact ⟨0, 2147483648, by omega, rfl, by omega, by omega, rfl, rfl, rfl⟩
  case round =>
    obtain ⟨k, p, hk, HP, hp0, hp1, HD, rfl, rfl⟩ := hrel
    have hx := u32_and_nat h p hh (by omega)
    by_cases hlt : k < 28
    · have hp8 : 16 ≤ p := by
        rw [HP.out]
        exact Nat.pow_le_pow_right (n := 2) (by omega) (show 4 ≤ 31 - k by omega)
      have hand : h &&& p = h / p % 2 * p := by rw [HP.out]; exact nat_bit (31 - k) h
      by_cases hb : h / p % 2 = 1
      · rw [hand, hb] at hx
        have hz : ((p : Int) == 0) = false := by simp; omega
        simp only [Nat.one_mul] at hx
        clear hand
        go_wp2
        go_ret
        exact ⟨ret_num (by rw [HD.out, nts_hit h k hlt (by rw [← HP.out]; exact hb)]), rfl⟩
      · have hb0 : h / p % 2 = 0 := by omega
        rw [hand, hb0] at hx
        simp only [Nat.zero_mul] at hx
        have HP2 : Hid (p / 2 = 2 ^ (31 - (k + 1))) := by
          show _ = _
          rw [HP.out, show 31 - k = (31 - (k + 1)) + 1 by omega, Nat.pow_succ]; omega
        clear hand
        go_wp2
        go_round
        case rel => exact ⟨k + 1, p / 2, by omega, HP2, by omega, by omega, by show nts h = _; rw [HD.out, nts_miss h k hlt (by rw [← HP.out]; exact hb)], by go_num, by go_num⟩
        case measure => simp [intOf]; omega
    · obtain rfl : k = 28 := by omega
      have hp8 : p = 8 := by rw [HP.out]
      subst hp8
      go_wp2
      go_ret
      exact ⟨ret_num (by rw [HD.out]; rfl), rfl⟩
set_option maxHeartbeats 400000 in
set_option maxRecDepth 100000 in
theorem exclusive_any (a b : Nat) (w : World) (ha : a < 256) (hb : b < 256) :
    Calls Try.prog 38 #[.int .i64 a, .int .i64 b] w fun e w' => e = .returned (.int .i64 ((a ^^^ b : Nat) : Int)) ∧ ∃ n, w' = w.drewN n := by
  go_enter Try.func38, Try.ntmps38
  go_wp2
  go_loopw [5, 6] (fun t i wr => ∃ (k p n m : Nat), k ≤ 8 ∧ Hid (p = 2 ^ k) ∧ 0 < p ∧ p ≤ 256 ∧ n ≤ 256 ∧ Hid (n = (a ^^^ b) % 2 ^ k) ∧ t = .int .i64 n ∧ i = .int .i64 p ∧ wr = w.drewN m) (fun _ i _ => 512 - (intOf i).toNat)
  case atStart => exact ⟨0, 1, 0, 0, by omega, rfl, by omega, by omega, by omega, by show 0 = _; rw [Nat.pow_zero, Nat.mod_one], rfl, rfl, rfl⟩
  case round =>
    obtain ⟨k, p, n, m, hk, HP, hp0, hp1, hn, HN, rfl, rfl, rfl⟩ := hrel
    by_cases hlt : k < 8
    · have hp8 : p ≤ 128 := by
        rw [HP.out]
        exact Nat.pow_le_pow_right (n := 2) (by omega) (show k ≤ 7 by omega)
      have hq := quo_le a p
      have hq' := quo_le b p
      have HP2 : Hid (2 * p = 2 ^ (k + 1)) := by show _ = _; rw [HP.out, Nat.pow_succ]; omega
      have hnb : n < p := by rw [HN.out, HP.out]; exact Nat.mod_lt _ (Nat.two_pow_pos k)
      have hz : ((p : Int) == 0) = false := by simp; omega
      by_cases hd : a / p % 2 = b / p % 2
      · have hd' : ((a : Int) / (p : Int) % 2 != (b : Int) / (p : Int) % 2) = false := by rw [div_bit a p, div_bit b p, hd]; simp
        have HN2 : Hid (n = (a ^^^ b) % 2 ^ (k + 1)) := by
          show _ = _
          rw [xor_bit, ← HN.out, ← HP.out, if_neg (by omega)]; omega
        go_wp2
        go_quiet (fail)
        go_wp2
        go_roundw
        case rel => exact ⟨k + 1, 2 * p, n, _, by omega, HP2, by omega, by omega, by omega, HN2, rfl, by go_num, rfl⟩
        case measure => simp [intOf]; omega
      · have hd' : ((a : Int) / (p : Int) % 2 != (b : Int) / (p : Int) % 2) = true := by rw [div_bit a p, div_bit b p]; simp; omega
        have HN2 : Hid (n + p = (a ^^^ b) % 2 ^ (k + 1)) := by
          show _ = _
          rw [xor_bit, ← HN.out, ← HP.out, if_pos (by omega)]
        go_wp2
        go_quiet (fail)
        go_wp2
        go_roundw
        case rel => exact ⟨k + 1, 2 * p, n + p, _, by omega, HP2, by omega, by omega, by omega, HN2, by go_num, by go_num, rfl⟩
        case measure => simp [intOf]; omega
    · obtain rfl : k = 8 := by omega
      have hp8 : p = 256 := by rw [HP.out]
      have HE : Hid (n = a ^^^ b) := by
        have := HN.out
        rw [Nat.mod_eq_of_lt (Nat.xor_lt_two_pow (n := 8) ha hb)] at this
        exact this
      subst hp8
      go_wp2
      go_ret
      exact ⟨ret_num (by rw [HE.out]), _, rfl⟩
theorem exclusive_int (a b : Int) (n : Nat) (w : World) (ha : 0 ≤ a) (ha1 : a < 256) (hb : 0 ≤ b) (hb1 : b < 256) (hn : Hid (n = a.toNat ^^^ b.toNat)) :
    Calls Try.prog 38 #[.int .i64 a, .int .i64 b] w fun e w' => e = .returned (.int .i64 n) ∧ ∃ n, w' = w.drewN n := by
  have h := exclusive_any a.toNat b.toNat w (by omega) (by omega)
  rw [show ((a.toNat : Nat) : Int) = a by omega, show ((b.toNat : Nat) : Int) = b by omega, ← hn.out] at h
  exact h
set_option maxRecDepth 100000 in
set_option maxHeartbeats 400000 in
theorem rhash_any (s : ByteArray) (w : World) (hs : s.size ≤ maxLen) :
    Calls Try.prog 14 #[.string s] w fun e w' => e = .returned (.int .u32 (hash s.data.toList)) ∧ ∃ n, w' = w.drewN n := by
  unfold maxLen at hs
  go_enter Try.func14, Try.ntmps14
  go_wp2
  go_loopw [3, 4, 5] (fun t i _ wr => ∃ k H m : Nat, k ≤ s.size ∧ H < 4294967296 ∧ Hid (H = hash (s.data.toList.take k)) ∧ i = .int .i64 k ∧ t = .int .i64 H ∧ wr = w.drewN m) (fun _ i _ _ => s.size - (intOf i).toNat)
  case atStart => exact ⟨0, h0, 0, Nat.zero_le _, h0_lt, rfl, rfl, rfl, rfl⟩
  case round =>
    obtain ⟨k, H, m, hk, hH, HD, rfl, rfl, rfl⟩ := hrel
    by_cases hlt : k < s.size
    · have HS : Hid (hash (s.data.toList.take (k + 1)) = hstep H s[k].toNat) := by show _ = _; rw [hash_take s k hlt, ← HD.out]
      have hb : s[k].toNat < 256 := UInt8.toNat_lt _
      have hx := xor_lt H s[k].toNat hH hb
      obtain ⟨x, HX⟩ : ∃ x, Hid (x = ((H : Int) % 256).toNat ^^^ ((s[k].toNat : Nat) : Int).toNat) := ⟨_, by unfold Hid; rfl⟩
      have hx256 : x < 256 := by
        rw [HX.out]
        exact Nat.xor_lt_two_pow (n := 8) (by omega) (by omega)
      have HL : Hid (H - H % 256 + x = H ^^^ s[k].toNat) := by
        show _ = _
        have := xor_low H s[k].toNat hb
        rw [HX.out, show ((H : Int) % 256).toNat = H % 256 by omega, show ((s[k].toNat : Nat) : Int).toNat = s[k].toNat by omega]
        exact this
      clear hx
      go_wp2_with (go_at_call 38; refine (exclusive_int _ _ x _ (by omega) (by omega) (by omega) (by omega) HX).mono ?_; rintro e w' ⟨rfl, n', rfl⟩)
      go_roundw
      case rel =>
        refine ⟨k + 1, hstep H s[k].toNat, _, by omega, hstep_lt _ _, HS.out.symm, by go_num, ?_, rfl⟩
        have h1 := HL.out
        have e : ((H : Int) - (H : Int) % 256 + (x : Int)) = ((H ^^^ s[k].toNat : Nat) : Int) := by rw [← h1]; omega
        rw [e]
        simp [hstep]
      case measure => simp [intOf]; omega
    · go_wp2
      go_ret
      exact ⟨ret_num (by rw [HD.out, hash_all s k (by omega)]), _, rfl⟩
end Go.Proofs.Ytpglbakcjihohaa
