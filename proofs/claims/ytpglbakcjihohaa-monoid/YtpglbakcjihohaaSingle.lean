/-
  Of one event's sketch 'single' answers true; merging is nothing to order and brackets, and the empty sketch is nothing to it.
-/
import Derived.Test.YtpglbakcjihohaaEq
namespace Go.Proofs.Ytpglbakcjihohaa
open Go.RowKit
set_option maxRecDepth 100000

theorem bkt_zero (v : Int) : bkt v = 0 ↔ v ≤ 7 := by
  have := nb_le v.toNat 3
  unfold bkt; omega
theorem bkt_seven (v : Int) (h1 : v ≤ 2147483647) : bkt v = 7 ↔ 134217728 ≤ v := by
  have := nb_le v.toNat 27
  have := (nb_le v.toNat 31).2 (by omega)
  unfold bkt; omega
/-- The empty sketch, merged with one, is that one. -/
theorem mrg_empty {M : Array Value} {s : Sk} (ok : s.Ok) (h : IsSk M (mrg Sk.empty s)) : IsSk M s := by
  have h0 := ok.c0; have h1 := ok.c1; have h2 := ok.s0; have h3 := ok.s1; have h4 := ok.l0; have h5 := ok.l1; have h6 := ok.g0; have h7 := ok.g1
  refine h.congr ?_ ?_ ?_ ?_ (fun k _ => ?_) (fun k _ => ?_)
  · show min (0 + s.c) 65535 = s.c; omega
  · show (0 + s.s) % 4294967296 = s.s; omega
  · show min 2147483647 s.l = s.l; omega
  · show max (-2147483648) s.g = s.g; omega
  · have := ok.r0 k; show max 0 (s.r k) = s.r k; omega
  · have := ok.h0 k; have := ok.h1 k; show min (0 + s.h k) 255 = s.h k; omega
theorem mrg_empty' {M : Array Value} {s : Sk} (ok : s.Ok) (h : IsSk M (mrg s Sk.empty)) : IsSk M s := by
  have h0 := ok.c0; have h1 := ok.c1; have h2 := ok.s0; have h3 := ok.s1; have h4 := ok.l0; have h5 := ok.l1; have h6 := ok.g0; have h7 := ok.g1
  refine h.congr ?_ ?_ ?_ ?_ (fun k _ => ?_) (fun k _ => ?_)
  · show min (s.c + 0) 65535 = s.c; omega
  · show (s.s + 0) % 4294967296 = s.s; omega
  · show min s.l 2147483647 = s.l; omega
  · show max s.g (-2147483648) = s.g; omega
  · have := ok.r0 k; show max (s.r k) 0 = s.r k; omega
  · have := ok.h0 k; have := ok.h1 k; show min (s.h k + 0) 255 = s.h k; omega
theorem mrg_comm {M : Array Value} {a b : Sk} (h : IsSk M (mrg a b)) : IsSk M (mrg b a) :=
  h.congr (by show min _ _ = min _ _; omega) (by show (a.s + b.s) % _ = (b.s + a.s) % _; omega) (by show min _ _ = min _ _; omega) (by show max _ _ = max _ _; omega)
    (fun k _ => by show max _ _ = max _ _; omega) (fun k _ => by show min _ _ = min _ _; omega)
theorem mrg_assoc {M : Array Value} {a b c : Sk} (oka : a.Ok) (okb : b.Ok) (okc : c.Ok) (h : IsSk M (mrg a (mrg b c))) : IsSk M (mrg (mrg a b) c) := by
  have h0 := oka.c0; have h1 := okb.c0; have h2 := okc.c0
  refine h.congr ?_ ?_ ?_ ?_ (fun k _ => ?_) (fun k _ => ?_)
  · show min (a.c + min (b.c + c.c) 65535) 65535 = min (min (a.c + b.c) 65535 + c.c) 65535; omega
  · show (a.s + (b.s + c.s) % 4294967296) % 4294967296 = ((a.s + b.s) % 4294967296 + c.s) % 4294967296; omega
  · show min a.l (min b.l c.l) = min (min a.l b.l) c.l; omega
  · show max a.g (max b.g c.g) = max (max a.g b.g) c.g; omega
  · show max (a.r k) (max (b.r k) (c.r k)) = max (max (a.r k) (b.r k)) (c.r k); omega
  · have := oka.h0 k; have := okb.h0 k; have := okc.h0 k
    show min (a.h k + min (b.h k + c.h k) 255) 255 = min (min (a.h k + b.h k) 255 + c.h k) 255; omega

theorem if_step {q k x y : Nat} (h : ¬ k = q) : (if q < k then x else y) = if q < k + 1 then x else y := by
  by_cases h1 : q < k
  · rw [if_pos h1, if_pos (by omega)]
  · rw [if_neg h1, if_neg (by omega)]
set_option maxHeartbeats 1000000 in
theorem single_any (s : Sk) (A : Array Value) (hA : IsSk A s) (v : Int) (q t : Nat) (rv : Int) (hq : q < 16) (ht : t < 8) (hr0 : 1 ≤ rv) (hr1 : rv ≤ 29) (hr : Hid (∀ k, s.r k = if k = q then rv else 0)) (hh : Hid (∀ k, s.h k = if k = t then 1 else 0))
    (hc1 : Hid (t = 0 ↔ v ≤ 7)) (hc2 : Hid (t = 7 ↔ 134217728 ≤ v)) (w : World) :
    Calls Try.prog 22 #[.agg A, .int .i32 v] w fun e w' => e = .returned (.bool true) ∧ Below w.heap.size w w' := by
  go_enter Try.func22, Try.ntmps22
  go_wp2
  go_loop [5, 6] (fun n i => ∃ k m : Nat, k ≤ 16 ∧ i = .int .i64 k ∧ n = .int .i64 m ∧ m ≤ 1 ∧ Hid (m = if q < k then 1 else 0)) (fun _ i => 16 - (intOf i).toNat)
  case atStart => exact ⟨0, 0, by omega, rfl, rfl, by omega, by show 0 = _; rw [if_neg (by omega)]⟩
  case round =>
    obtain ⟨k, m, hk, rfl, rfl, hm, HM⟩ := hrel
    by_cases hlt : k < 16
    · have hg := hA.reg k hlt
      rw [hr.out k] at hg
      by_cases hkq : k = q
      · rw [if_pos hkq] at hg
        have HM2 : Hid (m + 1 = if q < k + 1 then 1 else 0) := by have := HM.out; rw [if_neg (by omega)] at this; show _ = _; rw [if_pos (by omega)]; omega
        have hm0 : m ≤ 0 := by have := HM.out; rw [if_neg (by omega)] at this; omega
        clear hkq
        go_wp2
        go_round
        case rel => exact ⟨k + 1, m + 1, by omega, by go_num, by go_num, by omega, HM2⟩
        case measure => simp [intOf]; omega
      · rw [if_neg hkq] at hg
        have HM2 : Hid (m = if q < k + 1 then 1 else 0) := by have := HM.out; show _ = _; rw [this]; exact if_step hkq
        clear hkq
        go_wp2
        go_round
        case rel => exact ⟨k + 1, m, by omega, by go_num, by go_num, by omega, HM2⟩
        case measure => simp [intOf]; omega
    · obtain rfl : k = 16 := by omega
      obtain rfl : m = 1 := by have := HM.out; rw [if_pos hq] at this; exact this
      clear hk hlt hm HM
      go_wp2
      go_loop [7, 8, 9] (fun n p i => ∃ k m u : Nat, k ≤ 8 ∧ i = .int .i64 k ∧ n = .int .i64 m ∧ m ≤ 1 ∧ p = .int .i64 u ∧ u ≤ 7 ∧ Hid (m = if t < k then 1 else 0) ∧ Hid (u = if t < k then t else 0)) (fun _ _ i => 8 - (intOf i).toNat)
      case atStart => exact ⟨0, 0, 0, by omega, rfl, rfl, by omega, rfl, by omega, by show 0 = _; rw [if_neg (by omega)], by show 0 = _; rw [if_neg (by omega)]⟩
      case round =>
        obtain ⟨k, m, u, hk, rfl, rfl, hm, rfl, hu, HM, HU⟩ := hrel
        by_cases hlt : k < 8
        · have hg := hA.hist k hlt
          rw [hh.out k] at hg
          by_cases hkq : k = t
          · rw [if_pos hkq] at hg
            have HM2 : Hid (m + 1 = if t < k + 1 then 1 else 0) := by have := HM.out; rw [if_neg (by omega)] at this; show _ = _; rw [if_pos (by omega)]; omega
            have HU2 : Hid (k = if t < k + 1 then t else 0) := by show _ = _; rw [if_pos (by omega)]; omega
            have hm0 : m ≤ 0 := by have := HM.out; rw [if_neg (by omega)] at this; omega
            clear hkq
            go_wp2
            go_round
            case rel => exact ⟨k + 1, m + 1, k, by omega, by go_num, by go_num, by omega, rfl, by omega, HM2, HU2⟩
            case measure => simp [intOf]; omega
          · rw [if_neg hkq] at hg
            have HM2 : Hid (m = if t < k + 1 then 1 else 0) := by have := HM.out; show _ = _; rw [this]; exact if_step hkq
            have HU2 : Hid (u = if t < k + 1 then t else 0) := by have := HU.out; show _ = _; rw [this]; exact if_step hkq
            clear hkq
            go_wp2
            go_round
            case rel => exact ⟨k + 1, m, u, by omega, by go_num, by go_num, by omega, rfl, by omega, HM2, HU2⟩
            case measure => simp [intOf]; omega
        · obtain rfl : k = 8 := by omega
          obtain rfl : m = 1 := by have := HM.out; rw [if_pos ht] at this; exact this
          obtain rfl : u = t := by have := HU.out; rw [if_pos ht] at this; exact this
          have c1 := hc1.out
          have c2 := hc2.out
          by_cases h7 : v ≤ 7
          · have e0 : ((u : Int) == 0) = true := by simp; omega
            have e7 : ((u : Int) == 7) = false := by simp; omega
            have h8 : decide (134217728 ≤ v) = false := by simp; omega
            clear c1 c2
            go_wp2
            go_ret
            exact ⟨rfl, below_alloc _ _⟩
          · by_cases h8 : 134217728 ≤ v
            · have e0 : ((u : Int) == 0) = false := by simp; omega
              have e7 : ((u : Int) == 7) = true := by simp; omega
              clear c1 c2
              go_wp2
              go_ret
              exact ⟨rfl, below_alloc _ _⟩
            · have e0 : ((u : Int) == 0) = false := by simp; omega
              have e7 : ((u : Int) == 7) = false := by simp; omega
              clear c1 c2
              go_wp2
              go_ret
              exact ⟨rfl, below_alloc _ _⟩
end Go.Proofs.Ytpglbakcjihohaa
