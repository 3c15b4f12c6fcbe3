/-
  For every sketch, part, further part and register, the statement on Rank and Distinct without the document's answer (P4, P5) comes out true and its arguments read as before; no condition.
-/
import Derived.Test.YtpglbakcjihohaaPick
import Derived.Test.YtpglbakcjihohaaOpen
import Derived.Deep.DeepCutAuto
import Derived.ShutString
import Derived.ChangeOld
namespace Go.Proofs.Ytpglbakcjihohaa.LRanks
open Go.ChangeShapes Go.WideShapes Go.ChangeAt Go.RowKit
set_option maxRecDepth 100000
open Go.ChangeMaps (open_string shut_string)
set_option linter.unusedVariables false

theorem own : ownKnob Try.prog.godebug = none := by kernel_rfl
theorem laidOut : laidOutB Try.prog = true := by kernel_rfl

theorem pick_to (c n p : Int) (hp : Hid (p = pk c n)) (w : World) (h0 : -9223372036854775808 ≤ c) (h1 : c ≤ 9223372036854775807) (hn : 1 ≤ n) (hn1 : n ≤ 9223372036854775807) :
    Calls Try.prog 24 #[.int .i64 c, .int .i64 n] w fun e w' => e = .returned (.int .i64 p) ∧ w' = w := by
  rw [hp.out]; exact pick_any c n w h0 h1 hn hn1
theorem rank_to (s : Sk) (A : Array Value) (hA : IsSk A s) (p : Int) (R : Nat) (hR : Hid (R = rank s p)) (w : World) (ok : s.Ok) :
    Calls Try.prog 20 #[.agg A, .int .i64 p] w fun e w' => e = .returned (.int .i64 R) ∧ Below w.heap.size w w' := by
  rw [hR.out]; exact trank_any s A hA p w ok
theorem dist_to (s : Sk) (A : Array Value) (hA : IsSk A s) (x : Int) (hx : Hid (x = 738734374912 / wsum s 16)) (w : World) (ok : s.Ok) :
    Calls Try.prog 18 #[.agg A] w fun e w' => e = .returned (.int .u64 x) ∧ Below w.heap.size w w' := by
  rw [hx.out]; exact tdistinct_any s A hA w ok
theorem all_to (s : Sk) (A : Array Value) (hA : IsSk A s) (m : Int) (n : Nat) (hm : m = n) (hn : n ≤ 8) (x : Int) (hx : Hid (x = hsum s n)) (w : World) (ok : s.Ok) :
    Calls Try.prog 25 #[.agg A, .int .i64 m] w fun e w' => e = .returned (.int .i64 x) ∧ Below w.heap.size w w' := by
  rw [hx.out, hm]; exact all_any s A hA n hn w ok

/-- The numbers that the statement compares. -/
theorem numbers (s : Sk) (ok : s.Ok) (p q : Int) (hp0 : 0 ≤ p) (hpq : p ≤ q) (hq : q ≤ 1000) :
    rank s p ≤ 7 ∧ rank s p ≤ rank s q ∧ rank s q ≤ 7 ∧ p * hsum s 8 ≤ 1000 * hsum s (rank s p + 1) ∧ (rank s p = 0 ∨ 1000 * hsum s (rank s p) < p * hsum s 8) := by
  have hb := hsum_bd s ok.h0 ok.h1 8
  have h8 : p * hsum s 8 ≤ 1000 * hsum s 8 := Int.mul_le_mul_of_nonneg_right (by omega) hb.1
  have h9 : p * hsum s 8 ≤ q * hsum s 8 := Int.mul_le_mul_of_nonneg_right hpq hb.1
  unfold rank
  rw [clamp_in p hp0 (by omega), clamp_in q (by omega) hq]
  obtain ⟨k1, k2⟩ := rkGo_is s (p * hsum s 8) h8 7 0 rfl (.inl rfl)
  exact ⟨rk_le _ _, rkGo_mono s _ _ h9 7 0 rfl, rk_le _ _, k1, Or.elim k2 Or.inl (fun h => Or.inr (by omega))⟩

set_option maxHeartbeats 2000000 in
theorem walk (s : Sk) (A : Array Value) (hA : IsSk A s) (ok : s.Ok) (part more reg : Int) (hp0 : -9223372036854775808 ≤ part) (hp1 : part ≤ 9223372036854775807) (hm0 : -9223372036854775808 ≤ more) (hm1 : more ≤ 9223372036854775807) (hr0 : -9223372036854775808 ≤ reg) (hr1 : reg ≤ 9223372036854775807) (w : World) :
    Calls Try.prog 7 #[.agg A, .int .i64 part, .int .i64 more, .int .i64 reg] w fun e w' => e = .returned (.bool true) ∧ Below w.heap.size w w' := by
  obtain ⟨p, Hp⟩ : ∃ p, Hid (p = pk part 1001) := ⟨_, by unfold Hid; rfl⟩
  have bp := pk_bd part 1001 (by omega)
  rw [← Hp.out] at bp
  obtain ⟨d, Hd⟩ : ∃ d, Hid (d = pk more (1001 - p)) := ⟨_, by unfold Hid; rfl⟩
  have bd := pk_bd more (1001 - p) (by omega)
  rw [← Hd.out] at bd
  obtain ⟨R, HR⟩ : ∃ R, Hid (R = rank s p) := ⟨_, by unfold Hid; rfl⟩
  obtain ⟨S, HS⟩ : ∃ S, Hid (S = rank s (p + d)) := ⟨_, by unfold Hid; rfl⟩
  have nm := numbers s ok p (p + d) (by omega) (by omega) (by omega)
  rw [← HR.out, ← HS.out] at nm
  obtain ⟨n1, n2, n3, n4, n5⟩ := nm
  obtain ⟨x8, H8⟩ : ∃ x, Hid (x = hsum s 8) := ⟨_, by unfold Hid; rfl⟩
  obtain ⟨xu, Hu⟩ : ∃ x, Hid (x = hsum s (R + 1)) := ⟨_, by unfold Hid; rfl⟩
  obtain ⟨xa, Ha⟩ : ∃ x, Hid (x = hsum s R) := ⟨_, by unfold Hid; rfl⟩
  have b8 := hsum_bd s ok.h0 ok.h1 8
  have bu := hsum_bd s ok.h0 ok.h1 (R + 1)
  have ba := hsum_bd s ok.h0 ok.h1 R
  rw [← H8.out] at b8 n4 n5
  rw [← Hu.out] at bu n4
  rw [← Ha.out] at ba n5
  have nb := need_bd p x8 (by omega) (by omega) b8.1 (by omega)
  obtain ⟨k, hk, Hk⟩ : ∃ k : Nat, k < 16 ∧ Hid ((k : Int) = pk reg 16) := ⟨(pk reg 16).toNat, by have := pk_bd reg 16 (by omega); omega, by have := pk_bd reg 16 (by omega); show _ = _; omega⟩
  have hg := heap_alloc_new w (.cells A 27)
  have HB : Hid (Below w.heap.size w _) := below_alloc w (.cells A 27)
  have c1 : ¬ (R : Int) < 0 := by omega
  have c2 : ¬ (8 : Int) ≤ R := by omega
  have c3 : ¬ (S : Int) < R := by omega
  have c4 : ¬ 1000 * xu < p * x8 := by omega
  have c5 : ¬ (0 : Int) < R ∨ ((0 : Int) < R ∧ ¬ p * x8 ≤ 1000 * xa) := by omega
  obtain ⟨x, Hx⟩ : ∃ x, Hid (x = 738734374912 / wsum s 16) := ⟨_, by unfold Hid; rfl⟩
  have bw := wsum_bd s ok.r0 16
  have bx := quo_bd (wsum s 16) (by omega)
  have hx10 := dist_ten (wsum s 16) (by omega) (by omega)
  rw [← Hx.out] at bx hx10
  have hreg := hA.reg k hk
  have rk0 := ok.r0 k
  have rk1 := ok.r1 k
  obtain ⟨T, hT, okT, y, Hy, hxy, hy1, hTA⟩ : ∃ T : Sk, IsSk (if s.r k < 255 then A.setIfInBounds (4 + k) (.int .u8 (s.r k + 1)) else A) T ∧ T.Ok ∧ ∃ y, Hid (y = 738734374912 / wsum T 16) ∧ x ≤ y ∧ y ≤ 738734374912 ∧ True := by
    by_cases h : s.r k < 255
    · rw [if_pos h]
      have okT : Sk.Ok { s with r := fun j => if j = k then s.r k + 1 else s.r j } := { ok with r0 := fun j => by dsimp only; split <;> first | omega | exact ok.r0 j, r1 := fun j => by dsimp only; split <;> first | omega | exact ok.r1 j }
      have hm := wsum_mono s { s with r := fun j => if j = k then s.r k + 1 else s.r j } (fun j => by
        dsimp only
        split
        · rename_i e; subst e; exact wgt_mono _ rk0
        · exact Int.le_refl _) 16
      have bT := wsum_bd _ okT.r0 16
      exact ⟨_, hA.setReg k hk _, okT, _, by unfold Hid; rfl, by rw [Hx.out]; exact dist_mono _ _ (by omega) hm, (quo_bd _ (by omega)).2, trivial⟩
    · rw [if_neg h]
      exact ⟨s, hA, ok, x, Hx, Int.le_refl _, bx.2, trivial⟩
  clear hTA bw
  clear n1 n2 n3 n4 n5
  rcases c5 with c5 | ⟨c5, c6⟩ <;> by_cases hlt : s.r k < 255
  all_goals first | rw [if_pos hlt] at hT | rw [if_neg hlt] at hT
  all_goals
    go_enter Try.func7, Try.ntmps7
    go_wp2_with fail
    refine (pick_to _ _ p Hp _ hp0 hp1 (by omega) (by omega)).mono ?_
    rintro e w1 ⟨rfl, rfl⟩
    go_wp2_with fail
    refine (pick_to _ _ d Hd _ hm0 hm1 (by omega) (by omega)).mono ?_
    rintro e w1 ⟨rfl, rfl⟩
    go_wp2_with (refine load_sk rfl _ rfl _ rfl A _ hA (by exact hg) ?_)
    refine (rank_to s A hA _ R HR _ ok).mono ?_
    rintro e w1 ⟨rfl, hb⟩
    replace hg := keep hb hg
    replace HB := bnext HB hb
    clear hb
    go_wp2_with (refine load_sk rfl _ rfl _ rfl A _ hA (by exact hg) ?_)
    refine (rank_to s A hA _ S HS _ ok).mono ?_
    rintro e w2 ⟨rfl, hb⟩
    replace hg := keep hb hg
    replace HB := bnext HB hb
    clear hb
    go_upto_if 44 with fail
    go_wp2_with (refine load_sk rfl _ rfl _ rfl A _ hA (by exact hg) ?_)
    refine (all_to s A hA _ 8 rfl (by omega) x8 H8 _ ok).mono ?_
    rintro e w3 ⟨rfl, hb⟩
    replace hg := keep hb hg
    replace HB := bnext HB hb
    clear hb
    go_wp2_with (refine load_sk rfl _ rfl _ rfl A _ hA (by exact hg) ?_)
    refine (all_to s A hA _ (R + 1) (by omega) (by omega) xu Hu _ ok).mono ?_
    rintro e w4 ⟨rfl, hb⟩
    replace hg := keep hb hg
    replace HB := bnext HB hb
    clear hb
    go_wp2_with (refine load_sk rfl _ rfl _ rfl A _ hA (by exact hg) ?_)
    refine (all_to s A hA _ R rfl (by omega) xa Ha _ ok).mono ?_
    rintro e w5 ⟨rfl, hb⟩
    replace hg := keep hb hg
    replace HB := bnext HB hb
    clear hb
    go_upto_if 71 with fail
    go_wp2_with (first | (refine load_sk rfl _ rfl _ rfl A _ hA (by exact hg) ?_) | (refine alloc_sk rfl rfl ?_; intro Z hZ) | (refine store_sk_new rfl _ _ rfl A _ _ rfl rfl (by rfl) hA hZ ?_))
    refine (pick_to _ _ (k : Int) Hk _ hr0 hr1 (by omega) (by omega)).mono ?_
    rintro e w9 ⟨rfl, rfl⟩
    go_wp2_with (refine load_sk rfl _ rfl _ rfl A _ hA (by exact blk_old hg) ?_)
    refine (dist_to s A hA x Hx _ ok).mono ?_
    rintro e w6 ⟨rfl, hb⟩
    have gT := keep hb (heap_alloc_new _ _)
    replace HB := bnext (bnext HB (below_alloc _ _)) hb
    clear hb hreg
    go_wp2_with (refine load_sk rfl _ rfl _ rfl _ _ hT (by exact gT) ?_)
    refine (dist_to T _ hT y Hy _ okT).mono ?_
    rintro e w7 ⟨rfl, hb⟩
    replace HB := bnext HB hb
    go_wp2
    go_ret
    exact ⟨rfl, HB⟩

set_option maxRecDepth 100000 in
theorem lifted (os : Os) (started : os.Started) (H : Type) (enc : TypeId × Value → H) :
    ReturnsInHanded {} Try.checked os 7 .any (Rows.ranksSpec.pre6 enc Try.prog Try.f7 Rows.ranksRow.domain false) (Rows.ranksSpec.post enc Try.prog Try.f7 false true false false) := by
  refine returnsInHanded_of_change (C := Try.checked) own started (by kernel_rfl) Try.func7
    (ChangeSpec.witness6 (enc := enc) (C := Try.checked) false ⟨#[], #[.agg (Sk.mk 0 0 0 0 (fun _ => 0) (fun _ => 0)).cells, .int .i64 0, .int .i64 0, .int .i64 0], []⟩ 8 (by kernel_rfl) (by kernel_rfl) (by kernel_rfl) (by kernel_rfl)) ?_
  intro W base args ds gs before hval0 hW hcnd _
  have hval : ∀ (j : Nat) t v, Try.f7.params[j]? = some t → args[j]? = some v → Value.okWide Try.prog W .any base t v := hval0
  have hW' := hW
  obtain ⟨p, q, hA0, hV, rfl, hfz, hnd⟩ := hW
  have hA : DataW.TrodAll enc Try.prog W 0 (fun _ => true) true Try.f7.params.toList args.toList ds p := hA0
  rw [Try.params7] at hA hval
  obtain ⟨v0, vs0, d0, ds0, p0, q0, hargs, rfl, rfl, h0, r0⟩ := trodAll_cons hA
  obtain ⟨v1, vs1, d1, ds1, p1, q1, rfl, rfl, rfl, h1, r1⟩ := trodAll_cons r0
  obtain ⟨v2, vs2, d2, ds2, p2, q2, rfl, rfl, rfl, h2, r2⟩ := trodAll_cons r1
  obtain ⟨v3, vs3, d3, ds3, p3, q3, rfl, rfl, rfl, h3, r3⟩ := trodAll_cons r2
  obtain ⟨rfl, rfl, rfl⟩ := trodAll_nil r3
  obtain rfl : args = #[v0, v1, v2, v3] := by cases args; simp_all
  obtain ⟨rfl, rfl⟩ := trodVars_none hV
  have lt0 : ∀ x ∈ p0, x.block < W.heap.size := by obtain ⟨m, hm⟩ := h0; exact DataW.trod_lt m _ _ _ hm
  obtain ⟨A0, s0, rfl, e0, ok0⟩ := arg_sk (hval 0 27 v0 rfl rfl) h0
  obtain ⟨a1, rfl, rfl, rfl, w1⟩ := open_int Try.underlying3 (hval 1 3 v1 rfl rfl) h1
  obtain ⟨a2, rfl, rfl, rfl, w2⟩ := open_int Try.underlying3 (hval 2 3 v2 rfl rfl) h2
  obtain ⟨a3, rfl, rfl, rfl, w3⟩ := open_int Try.underlying3 (hval 3 3 v3 rfl rfl) h3
  clear hA0 hval0
  refine (walk s0 A0 e0 ok0 a1 a2 a3 (bounds_i64 w1).1 (bounds_i64 w1).2 (bounds_i64 w2).1 (bounds_i64 w2).2 (bounds_i64 w3).1 (bounds_i64 w3).2 W).mono fun e W' ⟨he, bel⟩ => ?_
  subst he
  exact ⟨_, rfl, _, _, _, [], _, [], hW', trodAll_mk1 (shut_bool Try.underlying4 _), (trodAll_cons_mk (Below.trod laidOut (by kernel_rfl) (of_decide_eq_true (by kernel_rfl)) h0 bel lt0) (trodAll_cons_mk (shut_int Try.underlying3 w1) (trodAll_cons_mk (shut_int Try.underlying3 w2) (trodAll_cons_mk (shut_int Try.underlying3 w3) trodAll_mk0)))), rfl, bel.frame _, fun h => by cases h⟩

theorem over : Rows.ranksRow.holds Try.pinned (OpenSpec.ofChange Rows.ranksSpec) :=
  OpenClaim.holds_of_wide 7 Try.f7 rfl rfl rfl rfl rfl rfl rfl ⟨rfl, rfl, rfl, rfl, rfl⟩ rfl rfl rfl rfl rfl (by kernel_rfl) Try.func7 (by kernel_rfl)
    (of_decide_eq_true (by kernel_rfl)) (by unfold Func.isWrapper; first | (rw [if_pos (by decide +kernel)]; kernel_rfl) | (rw [if_neg (by decide +kernel)]; exact ⟨rfl, rfl⟩))
    (fun os started H enc _ => lifted os started H enc)
end Go.Proofs.Ytpglbakcjihohaa.LRanks

namespace Go.Proofs.Ytpglbakcjihohaa
/-- The statement. -/
theorem ranks_holds : Rows.RanksSaid := LRanks.over
#print axioms ranks_holds
end Go.Proofs.Ytpglbakcjihohaa
