/-
  For every list of events and every two numbers, the statement on the sketch of some events (P3, P4) comes out true and its arguments read as before; no condition.
-/
import Derived.Test.YtpglbakcjihohaaEOpen
import Derived.Test.YtpglbakcjihohaaPick
import Derived.Test.YtpglbakcjihohaaFEq
import Derived.Test.YtpglbakcjihohaaFRegion
import Derived.Test.YtpglbakcjihohaaOpen
import Derived.Deep.DeepCutAuto
import Derived.ShutString
import Derived.ChangeOld
namespace Go.Proofs.Ytpglbakcjihohaa.LFold
open Go.ChangeShapes Go.WideShapes Go.ChangeAt Go.RowKit
set_option maxRecDepth 100000
open Go.ChangeMaps (open_string shut_string)
set_option linter.unusedVariables false
set_option linter.unusedSimpArgs false

theorem own : ownKnob Try.prog.godebug = none := by kernel_rfl
theorem laidOut : laidOutB Try.prog = true := by kernel_rfl
theorem isSk_eq {A B : Array Value} {s : Sk} (h : IsSk A s) (k : IsSk B s) : A = B := Eq.trans (show A = s.cells from h) (show B = s.cells from k).symm
theorem pick_to (c n p : Int) (hp : Hid (p = pk c n)) (w : World) (h0 : -9223372036854775808 ≤ c) (h1 : c ≤ 9223372036854775807) (hn : 1 ≤ n) (hn1 : n ≤ 9223372036854775807) :
    Calls Try.prog 24 #[.int .i64 c, .int .i64 n] w fun e w' => e = .returned (.int .i64 p) ∧ w' = w := by
  rw [hp.out]; exact pick_any c n w h0 h1 hn hn1
theorem dist_to (s : Sk) (A : Array Value) (hA : IsSk A s) (x : Int) (hx : Hid (x = 738734374912 / wsum s 16)) (w : World) (ok : s.Ok) :
    Calls Try.prog 18 #[.agg A] w fun e w' => e = .returned (.int .u64 x) ∧ Below w.heap.size w w' := by
  rw [hx.out]; exact tdistinct_any s A hA w ok
theorem all_to (s : Sk) (A : Array Value) (hA : IsSk A s) (m : Int) (n : Nat) (hm : m = n) (hn : n ≤ 8) (x : Int) (hx : Hid (x = hsum s n)) (w : World) (ok : s.Ok) :
    Calls Try.prog 25 #[.agg A, .int .i64 m] w fun e w' => e = .returned (.int .i64 x) ∧ Below w.heap.size w w' := by
  rw [hx.out, hm]; exact all_any s A hA n hn w ok
theorem Evs.alloc {w : World} {a : Option Addr} {l : List Ev} (h : Evs w a l) (o : Obj) : Evs (w.alloc o) a l := h.below (below_alloc _ _)
theorem Evs.take {w : World} {a : Option Addr} {l : List Ev} (h : Evs w a l) (k : Nat) : Evs w a (l.take k) := by
  refine ⟨h.1.take k, ?_⟩
  rcases h.2 with h | ⟨b, off, ha, hlt, hc⟩
  · exact .inl (by rw [h]; simp)
  · exact .inr ⟨b, off, ha, hlt, fun i hi => by rw [List.getElem_take]; exact hc i (by rw [List.length_take] at hi; omega)⟩
theorem Evs.drop {w : World} {b off : Nat} {l : List Ev} (h : Evs w (some ⟨b, off, none⟩) l) (k cap : Nat) (hk : k ≤ l.length) (hc : l.length ≤ cap) : Evs w (if cap = k then some ⟨b, off, none⟩ else some ⟨b, off + k * 2, none⟩) (l.drop k) := by
  refine ⟨h.1.drop k, ?_⟩
  by_cases hkn : k = l.length
  · exact .inl (by rw [hkn]; simp)
  · rcases h.2 with h | ⟨b', off', ha, hlt, hcell⟩
    · exact .inl (by rw [h]; simp)
    · injection ha with ha; injection ha with h1 h2; subst h1; subst h2
      rw [if_neg (by omega)]
      refine .inr ⟨b, off + k * 2, rfl, hlt, fun i hi => ?_⟩
      have hi' : k + i < l.length := by rw [List.length_drop] at hi; omega
      obtain ⟨c1, c2⟩ := hcell (k + i) hi'
      rw [List.getElem_drop]
      rw [show off + (k + i) * 2 = off + k * 2 + i * 2 by omega] at c1
      rw [show off + (k + i) * 2 + 1 = off + k * 2 + i * 2 + 1 by omega] at c2
      exact ⟨c1, c2⟩

theorem sizeEv (w : World) : (sizeOf 43).run Try.prog w = .ok 2 w := by kernel_rfl
theorem slice_from (b off n cap k : Nat) (hk : k ≤ n) (w : World) : (Instr.slice 39 (.slice (some ⟨b, off, none⟩) n cap) (some (.int .i64 k)) none none).run Try.prog w =
    .ok (.slice (if cap = k then some ⟨b, off, none⟩ else some ⟨b, off + k * 2, none⟩) (n - k) (cap - k)) w := by
  have h1 : (Instr.sliceBound (.int .i64 (k : Int)) n .sliceB).run Try.prog w = .ok k w := by
    have := run_sliceBound (P := Try.prog) (w := w) .i64 (k : Int) n .sliceB (by omega) (by omega)
    simpa using this
  simp only [Instr.slice, Sem.run_bind, run_underlying Try.underlying39, Result.andThen_ok, Instr.sliceBounds, Sem.run_pure, Option.isSome_none, Bool.false_eq_true, if_false, h1, sizeEv]
  by_cases h : cap = k
  · simp [h]
  · simp [h, Addr.add_mid]

set_option maxHeartbeats 8000000 in
set_option maxRecDepth 100000 in
theorem walk_some (l : List Ev) (b off n cap : Nat) (cut again : Int) (hn : l.length = n) (hn0 : 0 < n) (hcap : n ≤ cap) (hmax : cap ≤ 6000000000000) (hc0 : -9223372036854775808 ≤ cut) (hc1 : cut ≤ 9223372036854775807) (hg0 : -9223372036854775808 ≤ again) (hg1 : again ≤ 9223372036854775807) (w : World)
    (he : Evs w (some ⟨b, off, none⟩) l) :
    Calls Try.prog 6 #[.slice (some ⟨b, off, none⟩) n cap, .int .i64 cut, .int .i64 again] w fun e w' => e = .returned (.bool true) ∧ Below w.heap.size w w' := by
  have hok := he.1
  have okS := F_ok l hok
  have hmx : n ≤ maxLen := by unfold maxLen; omega
  obtain ⟨k, hk, Hk⟩ : ∃ k : Nat, k ≤ n ∧ Hid ((k : Int) = pk cut ((n : Int) + 1)) := ⟨(pk cut ((n : Int) + 1)).toNat, by have := pk_bd cut ((n : Int) + 1) (by omega); omega, by have := pk_bd cut ((n : Int) + 1) (by omega); show _ = _; omega⟩
  have hkc : k ≤ cap := by omega
  obtain ⟨ay, hay, hsl⟩ : ∃ ay : Option Addr, Hid (ay = if cap = k then some ⟨b, off, none⟩ else some ⟨b, off + k * 2, none⟩) ∧ ∀ w, (Instr.slice 39 (.slice (some ⟨b, off, none⟩) n cap) (some (.int .i64 k)) none none).run Try.prog w = .ok (.slice ay (n - k) (cap - k)) w :=
    ⟨_, by unfold Hid; rfl, fun w => slice_from b off n cap k hk w⟩
  go_enter Try.func6, Try.ntmps6
  go_wp2_with fail
  refine (fold_any l _ n cap _ hn he hmx).mono ?_
  rintro e w1 ⟨S, rfl, hS, hb⟩
  replace he := he.below hb
  have HB : Hid (Below w.heap.size w w1) := hb
  clear hb
  go_wp2_with (first | (refine alloc_sk rfl rfl ?_; intro Z hZ) | (refine store_sk_new rfl _ _ rfl S _ _ rfl rfl (by rfl) hS hZ ?_; clear hZ))
  refine (pick_to _ _ (k : Int) Hk _ hc0 hc1 (by omega) (by omega)).mono ?_
  rintro e w9 ⟨rfl, rfl⟩
  go_wp2_with fail
  refine (fold_any (l.take k) _ k cap _ (by rw [List.length_take]; omega) (Evs.alloc (Evs.take he k) _) (by unfold maxLen; omega)).mono ?_
  rintro e w2 ⟨X, rfl, hX, hb⟩
  have gS := keep hb (heap_alloc_new _ _)
  replace he := (Evs.alloc he (.cells S 27)).below hb
  replace HB := bnext (bnext HB (below_alloc _ _)) hb
  clear hb
  go_wp2_with (first | (refine alloc_sk rfl rfl ?_; intro Z hZ) | (refine store_sk_new rfl _ _ rfl X _ _ rfl rfl (by rfl) hX hZ ?_; clear hZ))
  have hey : Evs w2 ay (l.drop k) := by rw [hay.out]; exact Evs.drop he k cap (by omega) (by omega)
  refine (fold_any (l.drop k) _ (n - k) (cap - k) _ (by rw [List.length_drop, hn]) (Evs.alloc hey _) (by unfold maxLen; omega)).mono ?_
  rintro e w3 ⟨Y, rfl, hY, hb⟩
  replace gS := keep hb (blk_old gS)
  have gX := keep hb (heap_alloc_new _ _)
  replace he := (Evs.alloc he (.cells X 27)).below hb
  replace HB := bnext (bnext HB (below_alloc _ _)) hb
  clear hb hey hay hsl
  have okX := F_ok _ (hok.take k)
  have okY := F_ok _ (hok.drop k)
  go_wp2_with (first | (refine alloc_sk rfl rfl ?_; intro Z hZ) | (refine store_sk_new rfl _ _ rfl Y _ _ rfl rfl (by rfl) hY hZ ?_; clear hZ) | (refine load_sk rfl _ rfl _ rfl Y _ hY (by exact heap_alloc_new _ _) ?_) | (refine load_sk rfl _ rfl _ rfl X _ hX (by exact blk_old gX) ?_))
  refine (tmerge_any _ _ Y X hY hX okY okX _).mono ?_
  rintro e w4 ⟨M, rfl, hM, hb⟩
  rw [F_cut l k hok] at hM
  obtain rfl := isSk_eq hM hS
  replace gS := keep hb (blk_old gS)
  replace he := (Evs.alloc he (.cells Y 27)).below hb
  replace HB := bnext (bnext HB (below_alloc _ _)) hb
  clear hb gX hX hY okX okY hM
  go_wp2_with (first | (refine alloc_sk rfl rfl ?_; intro Z hZ) | (refine store_sk_new rfl _ _ rfl M _ _ rfl rfl (by rfl) hS hZ ?_; clear hZ) | (refine load_sk_g (by rfl) _ rfl _ rfl M _ hS (by exact heap_alloc_new _ _) ?_) | (refine load_sk_g (by rfl) _ rfl _ rfl M _ hS (by exact blk_old gS) ?_) | (refine neq_sk_g (by rfl) _ _ _ rfl _ _ hS okS rfl rfl ?_))
  have GS : Hid (w4.heap[w1.heap.size]? = some (.cells M 27)) := gS
  have hw14 := lt_of_blk gS
  clear gS
  obtain ⟨hbw, hcell⟩ : b < w4.heap.size ∧ ∀ i (h : i < l.length), w4.cell? ⟨b, off + i * 2 + 1, none⟩ = some (.int .i32 l[i].v) := by
    rcases he.2 with h | ⟨b', off', ha, hlt, hc⟩
    · rw [h] at hn; simp at hn; omega
    · injection ha with ha; injection ha with h1 h2; subst h1; subst h2
      exact ⟨hlt, fun i hi => (hc i hi).2⟩
  go_loop [12, 13, 14, 15] (fun t1 t2 t3 t4 => ∃ (i : Nat) (s lo hi : Int), i ≤ n ∧ 0 ≤ s ∧ s ≤ 4294967295 ∧ t1 = .int .u32 s ∧ t2 = .int .i32 lo ∧ t3 = .int .i32 hi ∧ t4 = .int .i64 i ∧ Hid (s = (F (l.take i)).s) ∧ Hid (lo = (F (l.take i)).l) ∧ Hid (hi = (F (l.take i)).g)) (fun _ _ _ i => n - (intOf i).toNat)
  case atStart => exact ⟨0, 0, 2147483647, -2147483648, by omega, by omega, by omega, rfl, rfl, rfl, rfl, by unfold Hid; rfl, by unfold Hid; rfl, by unfold Hid; rfl⟩
  case round =>
    obtain ⟨i, s, lo, hi, hin, hs0, hs1, rfl, rfl, rfl, rfl, Hs, Hl, Hg⟩ := hrel
    by_cases hlt : i < n
    · have c2 := hcell i (by omega)
      have hst := F_take l i (by omega)
      have hev := hok l[i] (List.getElem_mem (by omega))
      obtain ⟨v, hv⟩ : ∃ v, v = l[i].v := ⟨_, rfl⟩
      have v0 := hev.v0
      have v1 := hev.v1
      rw [← hv] at c2 v0 v1
      have Hs2 : Hid ((s + v % 4294967296) % 4294967296 = (F (l.take (i + 1))).s) := by show _ = _; rw [hst, Hs.out, hv]; rfl
      have Hl2 : Hid (min lo v = (F (l.take (i + 1))).l) := by show _ = _; rw [hst, Hl.out, hv]; rfl
      have Hg2 : Hid (max hi v = (F (l.take (i + 1))).g) := by show _ = _; rw [hst, Hg.out, hv]; rfl
      clear hst hev hv hcell
      by_cases hlo : v < lo <;> by_cases hhi : hi < v
      all_goals first | (have e1 : min lo v = v := by omega) | (have e1 : min lo v = lo := by omega)
      all_goals first | (have e2 : max hi v = v := by omega) | (have e2 : max hi v = hi := by omega)
      all_goals rw [e1] at Hl2
      all_goals rw [e2] at Hg2
      all_goals clear e1 e2
      all_goals
        go_wp2
        go_round
        case rel => exact ⟨i + 1, _, _, _, by omega, by omega, by omega, rfl, rfl, rfl, by go_num, Hs2, Hl2, Hg2⟩
        case measure => simp [intOf]; omega
    · obtain rfl : i = n := by omega
      rw [List.take_of_length_le (by omega)] at Hs Hl Hg
      have gS : w4.heap[w1.heap.size]? = some (.cells M 27) := GS
      clear hin hlt hcell
      have o0 : w4.cell? ⟨w1.heap.size, 0, none⟩ = some (.int .u16 (min (i : Int) 65535)) := by rw [cell_of_row _ _ _ _ _ _ gS, hS.get0, F_count l hok, hn]
      have o1 : w4.cell? ⟨w1.heap.size, 1, none⟩ = some (.int .u32 s) := by rw [cell_of_row _ _ _ _ _ _ gS, hS.get1, Hs.out]
      have o2 : w4.cell? ⟨w1.heap.size, 2, none⟩ = some (.int .i32 lo) := by rw [cell_of_row _ _ _ _ _ _ gS, hS.get2, Hl.out]
      have o3 : w4.cell? ⟨w1.heap.size, 3, none⟩ = some (.int .i32 hi) := by rw [cell_of_row _ _ _ _ _ _ gS, hS.get3, Hg.out]
      clear gS
      obtain ⟨x8, H8, h8⟩ : ∃ x8 : Int, Hid (x8 = hsum (F l) 8) ∧ (i ≤ 255 → x8 = i) ∧ x8 ≤ i ∧ 0 ≤ x8 ∧ x8 ≤ 2040 := ⟨_, by unfold Hid; rfl, by have h := hits_eq l hok; rw [hn] at h; exact h, by have h := hits_le l hok; rw [hn] at h; have hb := hsum_bd (F l) okS.h0 okS.h1 8; omega⟩
      have hz : ((i : Int) == 0) = false := by simp; omega
      by_cases hbig : 65535 < i
      all_goals first | (have e1 : min (i : Int) 65535 = 65535 := by omega) | (have e1 : min (i : Int) 65535 = i := by omega)
      all_goals rw [e1] at o0
      all_goals clear e1
      all_goals
        go_upto_if 107 with fail
        clear o0 o1 o2 o3
        have gS : w4.heap[w1.heap.size]? = some (.cells M 27) := GS
        go_wp2_with (refine load_sk rfl _ rfl _ rfl M _ hS (by exact blk_old gS) ?_)
        refine (all_to _ M hS _ 8 rfl (by omega) x8 H8 _ okS).mono ?_
        rintro e w5 ⟨rfl, hb⟩
        replace gS := keep hb (blk_old gS)
        replace he := (Evs.alloc he (.cells M 27)).below hb
        replace HB := bnext (bnext HB (below_alloc _ _)) hb
        obtain ⟨h8a, h8b, h8c, h8d⟩ := h8
        clear hb hw14 hbw GS
        by_cases h255 : i ≤ 255
        all_goals try (exfalso; omega)
        all_goals try (have e8 := h8a h255; subst e8)
        all_goals clear h8a
        all_goals go_upto_if 124 with fail
        all_goals
          first | (have hx8n : ¬ (i : Int) < x8 := by omega) | skip
          obtain ⟨q, hq, Hq⟩ : ∃ q : Nat, q < i ∧ Hid ((q : Int) = pk again (i : Int)) := ⟨(pk again (i : Int)).toNat, by have := pk_bd again (i : Int) (by omega); omega, by have := pk_bd again (i : Int) (by omega); show _ = _; omega⟩
          obtain ⟨key, hkey, c1, l0, hr⟩ : ∃ key : ByteArray, True ∧ w5.cell? ⟨b, off + q * 2, none⟩ = some (.string key) ∧ key.size ≤ maxLen ∧ ∀ j, (mrg (F l) (one key.data.toList 5)).r j = (F l).r j := by
            rcases he.2 with h | ⟨b', off', ha, hlt, hc⟩
            · rw [h] at hn; simp at hn; omega
            · injection ha with ha; injection ha with h1 h2; subst h1; subst h2
              have hql : q < l.length := by omega
              exact ⟨l[q].key, trivial, (hc q hql).1, (hok l[q] (List.getElem_mem hql)).len, again_r l hok l[q] (List.getElem_mem hql)⟩
          clear hkey
          have okR := mrg_ok okS (one_ok key.data.toList 5 (by omega) (by omega))
          obtain ⟨x, Hx⟩ : ∃ x, Hid (x = 738734374912 / wsum (F l) 16) := ⟨_, by unfold Hid; rfl⟩
          have Hx2 : Hid (x = 738734374912 / wsum (mrg (F l) (one key.data.toList 5)) 16) := by show _ = _; rw [wsum_r _ _ hr 16]; exact Hx.out
          have bw := wsum_bd (F l) okS.r0 16
          have bx := quo_bd (wsum (F l) 16) (by omega)
          have hx10 := dist_ten (wsum (F l) 16) (by omega) (by omega)
          rw [← Hx.out] at bx hx10
          clear bw
          have Hr : Hid (∀ j, (mrg (F l) (one key.data.toList 5)).r j = (F l).r j) := hr
          clear hr
          go_wp2_with fail
          have hS0 : (fun w' : World => w'.heap[w1.heap.size]? = some (.cells M 27) ∧ w'.cell? ⟨b, off + q * 2, none⟩ = some (.string key) ∧ Hid (Below w.heap.size w w')) w5.drew := ⟨gS, c1, HB.drew⟩
          have hbw5 : b < w5.heap.size := block_lt_of_cell c1
          have hw15 := lt_of_blk gS
          have hw5 := HB.size
          have q0 : (0 : Int) ≤ (q : Int) := by omega
          have q1 : (q : Int) < (i : Int) := by omega
          clear gS c1 he
          refine wp_region_held (S := fun w' : World => w'.heap[w1.heap.size]? = some (.cells M 27) ∧ w'.cell? ⟨b, off + q * 2, none⟩ = some (.string key) ∧ Hid (Below w.heap.size w w')) mixed ?_
          refine wpAnyH_take (i := 0) (v := (.agg M)) rfl (by kernel_rfl) (by kernel_rfl) (by kernel_rfl) (fun _ _ _ h => h) (yieldsIf_load_sk (by rfl) _ rfl _ rfl M _ hS (fun wx hx => hx.1)) hS0 ?_
          try simp only [Act.put, List.setIfInBounds_toArray, List.set_cons_zero, List.set_cons_succ]
          refine wpAnyH_take (i := 1) (v := (.slice (some ⟨b, off, none⟩) i cap)) rfl (by kernel_rfl) (by kernel_rfl) (by kernel_rfl) (fun _ _ _ h => h) (Or.inl ⟨by rfl, fun wx hx => by go_simp⟩) hS0 ?_
          try simp only [Act.put, List.setIfInBounds_toArray, List.set_cons_zero, List.set_cons_succ]
          refine wpAnyH_take (i := 2) (v := (.int .i64 again)) rfl (by kernel_rfl) (by kernel_rfl) (by kernel_rfl) (fun _ _ _ h => h) (Or.inl ⟨by rfl, fun wx hx => by go_simp⟩) hS0 ?_
          try simp only [Act.put, List.setIfInBounds_toArray, List.set_cons_zero, List.set_cons_succ]
          refine wpAnyH_take (i := 3) (v := (.slice (some ⟨b, off, none⟩) i cap)) rfl (by kernel_rfl) (by kernel_rfl) (by kernel_rfl) (fun _ _ _ h => h) (Or.inl ⟨by rfl, fun wx hx => by go_simp⟩) hS0 ?_
          try simp only [Act.put, List.setIfInBounds_toArray, List.set_cons_zero, List.set_cons_succ]
          refine wpAnyH_take (i := 4) (v := (.int .i64 i)) rfl (by kernel_rfl) (by kernel_rfl) (by kernel_rfl) (fun _ _ _ h => h) (Or.inl ⟨by rfl, fun wx hx => by go_simp⟩) hS0 ?_
          try simp only [Act.put, List.setIfInBounds_toArray, List.set_cons_zero, List.set_cons_succ]
          refine wpAnyH_all (rs := [5, 10]) (by kernel_rfl) (by simp) ?_
          intro j hj
          simp only [List.mem_cons, List.not_mem_nil, or_false] at hj
          rcases hj with rfl | rfl
          · skip
            refine wpOp_of_wp rfl rfl ?_
            go_simp
            refine (pick_to again (i : Int) (q : Int) Hq _ hg0 hg1 (by omega) (by omega)).mono ?_
            rintro e wp ⟨rfl, rfl⟩
            refine ⟨hS0, ?_⟩
            try simp only [Act.put, List.setIfInBounds_toArray, List.set_cons_zero, List.set_cons_succ]
            refine wpAnyH_take (i := 6) (v := (.pointer (some ⟨b, off + q * 2, none⟩))) rfl (by kernel_rfl) (by kernel_rfl) (by kernel_rfl) (fun _ _ _ h => h) (Or.inl ⟨by rfl, fun wx hx => by go_simp⟩) hS0 ?_
            try simp only [Act.put, List.setIfInBounds_toArray, List.set_cons_zero, List.set_cons_succ]
            refine wpAnyH_take (i := 7) (v := (.pointer (some ⟨b, off + q * 2, none⟩))) rfl (by kernel_rfl) (by kernel_rfl) (by kernel_rfl) (fun _ _ _ h => h) (Or.inl ⟨by rfl, fun wx hx => by go_simp⟩) hS0 ?_
            try simp only [Act.put, List.setIfInBounds_toArray, List.set_cons_zero, List.set_cons_succ]
            refine wpAnyH_take (i := 8) (v := (.string key)) rfl (by kernel_rfl) (by kernel_rfl) (by kernel_rfl) (fun _ _ _ h => h) (Or.inl ⟨by rfl, fun wx hx => by have hx2 := hx.2.1; go_simp⟩) hS0 ?_
            try simp only [Act.put, List.setIfInBounds_toArray, List.set_cons_zero, List.set_cons_succ]
            refine wpAnyH_all (rs := [9, 10]) (by kernel_rfl) (by simp) ?_
            intro j hj
            simp only [List.mem_cons, List.not_mem_nil, or_false] at hj
            rcases hj with rfl | rfl
            · skip
              refine wpOp_of_wp rfl rfl ?_
              go_simp
              refine (tadd_any _ M hS okS key 5 _ l0 (by omega) (by omega)).mono ?_
              rintro e w6 ⟨R, rfl, hR, hb⟩
              have hS6 : (fun w' : World => w'.heap[w1.heap.size]? = some (.cells M 27) ∧ w'.cell? ⟨b, off + q * 2, none⟩ = some (.string key) ∧ Hid (Below w.heap.size w w')) w6 := ⟨keep hb hS0.1, cell_keep hb hS0.2.1, bnext hS0.2.2 hb⟩
              refine ⟨hS6, ?_⟩
              try simp only [Act.put, List.setIfInBounds_toArray, List.set_cons_zero, List.set_cons_succ]
              refine wpAnyH_all (rs := [10]) (by kernel_rfl) (by simp) ?_
              intro j hj
              simp only [List.mem_cons, List.not_mem_nil, or_false] at hj
              subst hj
              refine wpOp_alloc_sk rfl rfl rfl ?_
              intro Z6 hZ6
              have hS7 : (fun w' : World => w'.heap[w1.heap.size]? = some (.cells M 27) ∧ w'.cell? ⟨b, off + q * 2, none⟩ = some (.string key) ∧ Hid (Below w.heap.size w w')) (w6.alloc (.cells Z6 27)) := ⟨blk_old hS6.1, cell_keep (below_alloc _ _) hS6.2.1, bnext hS6.2.2 (below_alloc _ _)⟩
              refine ⟨hS7, ?_⟩
              try simp only [Act.put, List.setIfInBounds_toArray, List.set_cons_zero, List.set_cons_succ]
              refine wpAnyH_all (rs := [11]) (by kernel_rfl) (by simp) ?_
              intro j hj
              simp only [List.mem_cons, List.not_mem_nil, or_false] at hj
              subst hj
              refine wpOp_store_sk rfl rfl _ _ rfl R _ rfl rfl hR (heap_alloc_new _ _) hZ6.size ?_
              have hlt6 : w1.heap.size < w6.heap.size := lt_of_blk hS6.1
              have hSf : (fun w' : World => w'.heap[w1.heap.size]? = some (.cells M 27) ∧ w'.cell? ⟨b, off + q * 2, none⟩ = some (.string key) ∧ Hid (Below w.heap.size w w')) ((w6.alloc (.cells Z6 27)).setRow w6.heap.size R) := ⟨setRow_oth (by omega) hS7.1, cell_setRow (by have := block_lt_of_cell hS6.2.1; omega) hS7.2.1, below_setRow _ hS7.2.2 (hS6.2.2.size)⟩
              have gT : ((w6.alloc (.cells Z6 27)).setRow w6.heap.size R).heap[w6.heap.size]? = some (.cells R 27) := setRow_blk (heap_alloc_new _ _)
              refine ⟨hSf, ?_⟩
              try simp only [Act.put, List.setIfInBounds_toArray, List.set_cons_zero, List.set_cons_succ]
              refine wpAnyH_done (by kernel_rfl) ?_ _
              obtain ⟨gSf, _, HBf⟩ := hSf
              replace HBf : Below w.heap.size w _ := HBf
              go_wp2_with (refine load_sk rfl _ rfl _ rfl M _ hS (by exact gSf) ?_)
              refine (dist_to _ M hS x Hx _ okS).mono ?_
              rintro e w7 ⟨rfl, hb⟩
              replace gSf := keep hb gSf
              replace gT := keep hb gT
              replace HBf := bnext HBf hb
              clear hb
              go_wp2_with (refine load_sk rfl _ rfl _ rfl R _ hR (by exact gT) ?_)
              refine (dist_to _ R hR x Hx2 _ okR).mono ?_
              rintro e w8 ⟨rfl, hb⟩
              replace gSf := keep hb gSf
              replace gT := keep hb gT
              replace HBf := bnext HBf hb
              clear hb
              go_wp2_with (first | (refine load_regs rfl _ rfl _ rfl R _ hR (by exact gT) ?_) | (refine load_regs rfl _ rfl _ rfl M _ hS (by exact gSf) ?_) | (refine eql_regs rfl _ _ _ rfl _ okS _ (regsOf_eq _ _ Hr.out) rfl rfl ?_))
              go_ret
              exact ⟨rfl, HBf⟩
            · skip
              refine wpOp_alloc_sk rfl rfl rfl ?_
              intro Z6 hZ6
              have hS7 : (fun w' : World => w'.heap[w1.heap.size]? = some (.cells M 27) ∧ w'.cell? ⟨b, off + q * 2, none⟩ = some (.string key) ∧ Hid (Below w.heap.size w w')) ((w5.alloc (.cells Z6 27)).drew) := ⟨blk_old hS0.1, cell_keep (below_alloc _ _) hS0.2.1, bnext hS0.2.2 (below_alloc _ _)⟩
              refine ⟨hS7, ?_⟩
              try simp only [Act.put, List.setIfInBounds_toArray, List.set_cons_zero, List.set_cons_succ]
              refine wpAnyH_all (rs := [9]) (by kernel_rfl) (by simp) ?_
              intro j hj
              simp only [List.mem_cons, List.not_mem_nil, or_false] at hj
              subst hj
              refine wpOp_of_wp rfl rfl ?_
              go_simp
              refine (tadd_any _ M hS okS key 5 _ l0 (by omega) (by omega)).mono ?_
              rintro e w6 ⟨R, rfl, hR, hb⟩
              have hS6 : (fun w' : World => w'.heap[w1.heap.size]? = some (.cells M 27) ∧ w'.cell? ⟨b, off + q * 2, none⟩ = some (.string key) ∧ Hid (Below w.heap.size w w')) w6 := ⟨keep hb hS7.1, cell_keep hb hS7.2.1, bnext hS7.2.2 hb⟩
              have gT0 : w6.heap[w5.heap.size]? = some (.cells Z6 27) := keep hb (heap_alloc_new w5 (.cells Z6 27))
              refine ⟨hS6, ?_⟩
              try simp only [Act.put, List.setIfInBounds_toArray, List.set_cons_zero, List.set_cons_succ]
              refine wpAnyH_all (rs := [11]) (by kernel_rfl) (by simp) ?_
              intro j hj
              simp only [List.mem_cons, List.not_mem_nil, or_false] at hj
              subst hj
              refine wpOp_store_sk rfl rfl _ _ rfl R _ rfl rfl hR gT0 hZ6.size ?_
              have hSf : (fun w' : World => w'.heap[w1.heap.size]? = some (.cells M 27) ∧ w'.cell? ⟨b, off + q * 2, none⟩ = some (.string key) ∧ Hid (Below w.heap.size w w')) (w6.setRow w5.heap.size R) := ⟨setRow_oth (by omega) hS6.1, cell_setRow (by show b ≠ w5.heap.size; omega) hS6.2.1, below_setRow _ hS6.2.2 hw5⟩
              have gT : (w6.setRow w5.heap.size R).heap[w5.heap.size]? = some (.cells R 27) := setRow_blk gT0
              refine ⟨hSf, ?_⟩
              try simp only [Act.put, List.setIfInBounds_toArray, List.set_cons_zero, List.set_cons_succ]
              refine wpAnyH_done (by kernel_rfl) ?_ _
              obtain ⟨gSf, _, HBf⟩ := hSf
              replace HBf : Below w.heap.size w _ := HBf
              go_wp2_with (refine load_sk rfl _ rfl _ rfl M _ hS (by exact gSf) ?_)
              refine (dist_to _ M hS x Hx _ okS).mono ?_
              rintro e w7 ⟨rfl, hb⟩
              replace gSf := keep hb gSf
              replace gT := keep hb gT
              replace HBf := bnext HBf hb
              clear hb
              go_wp2_with (refine load_sk rfl _ rfl _ rfl R _ hR (by exact gT) ?_)
              refine (dist_to _ R hR x Hx2 _ okR).mono ?_
              rintro e w8 ⟨rfl, hb⟩
              replace gSf := keep hb gSf
              replace gT := keep hb gT
              replace HBf := bnext HBf hb
              clear hb
              go_wp2_with (first | (refine load_regs rfl _ rfl _ rfl R _ hR (by exact gT) ?_) | (refine load_regs rfl _ rfl _ rfl M _ hS (by exact gSf) ?_) | (refine eql_regs rfl _ _ _ rfl _ okS _ (regsOf_eq _ _ Hr.out) rfl rfl ?_))
              go_ret
              exact ⟨rfl, HBf⟩
          · skip
            refine wpOp_alloc_sk rfl rfl rfl ?_
            intro Z6 hZ6
            have hS7 : (fun w' : World => w'.heap[w1.heap.size]? = some (.cells M 27) ∧ w'.cell? ⟨b, off + q * 2, none⟩ = some (.string key) ∧ Hid (Below w.heap.size w w')) ((w5.alloc (.cells Z6 27)).drew) := ⟨blk_old hS0.1, cell_keep (below_alloc _ _) hS0.2.1, bnext hS0.2.2 (below_alloc _ _)⟩
            refine ⟨hS7, ?_⟩
            try simp only [Act.put, List.setIfInBounds_toArray, List.set_cons_zero, List.set_cons_succ]
            refine wpAnyH_all (rs := [5]) (by kernel_rfl) (by simp) ?_
            intro j hj
            simp only [List.mem_cons, List.not_mem_nil, or_false] at hj
            subst hj
            refine wpOp_of_wp rfl rfl ?_
            go_simp
            refine (pick_to again (i : Int) (q : Int) Hq _ hg0 hg1 (by omega) (by omega)).mono ?_
            rintro e wp ⟨rfl, rfl⟩
            refine ⟨hS7, ?_⟩
            try simp only [Act.put, List.setIfInBounds_toArray, List.set_cons_zero, List.set_cons_succ]
            refine wpAnyH_take (i := 6) (v := (.pointer (some ⟨b, off + q * 2, none⟩))) rfl (by kernel_rfl) (by kernel_rfl) (by kernel_rfl) (fun _ _ _ h => h) (Or.inl ⟨by rfl, fun wx hx => by go_simp⟩) hS7 ?_
            try simp only [Act.put, List.setIfInBounds_toArray, List.set_cons_zero, List.set_cons_succ]
            refine wpAnyH_take (i := 7) (v := (.pointer (some ⟨b, off + q * 2, none⟩))) rfl (by kernel_rfl) (by kernel_rfl) (by kernel_rfl) (fun _ _ _ h => h) (Or.inl ⟨by rfl, fun wx hx => by go_simp⟩) hS7 ?_
            try simp only [Act.put, List.setIfInBounds_toArray, List.set_cons_zero, List.set_cons_succ]
            refine wpAnyH_take (i := 8) (v := (.string key)) rfl (by kernel_rfl) (by kernel_rfl) (by kernel_rfl) (fun _ _ _ h => h) (Or.inl ⟨by rfl, fun wx hx => by have hx2 := hx.2.1; go_simp⟩) hS7 ?_
            try simp only [Act.put, List.setIfInBounds_toArray, List.set_cons_zero, List.set_cons_succ]
            refine wpAnyH_all (rs := [9]) (by kernel_rfl) (by simp) ?_
            intro j hj
            simp only [List.mem_cons, List.not_mem_nil, or_false] at hj
            subst hj
            refine wpOp_of_wp rfl rfl ?_
            go_simp
            refine (tadd_any _ M hS okS key 5 _ l0 (by omega) (by omega)).mono ?_
            rintro e w6 ⟨R, rfl, hR, hb⟩
            have hS6 : (fun w' : World => w'.heap[w1.heap.size]? = some (.cells M 27) ∧ w'.cell? ⟨b, off + q * 2, none⟩ = some (.string key) ∧ Hid (Below w.heap.size w w')) w6 := ⟨keep hb hS7.1, cell_keep hb hS7.2.1, bnext hS7.2.2 hb⟩
            have gT0 : w6.heap[w5.heap.size]? = some (.cells Z6 27) := keep hb (heap_alloc_new w5 (.cells Z6 27))
            refine ⟨hS6, ?_⟩
            try simp only [Act.put, List.setIfInBounds_toArray, List.set_cons_zero, List.set_cons_succ]
            refine wpAnyH_all (rs := [11]) (by kernel_rfl) (by simp) ?_
            intro j hj
            simp only [List.mem_cons, List.not_mem_nil, or_false] at hj
            subst hj
            refine wpOp_store_sk rfl rfl _ _ rfl R _ rfl rfl hR gT0 hZ6.size ?_
            have hSf : (fun w' : World => w'.heap[w1.heap.size]? = some (.cells M 27) ∧ w'.cell? ⟨b, off + q * 2, none⟩ = some (.string key) ∧ Hid (Below w.heap.size w w')) (w6.setRow w5.heap.size R) := ⟨setRow_oth (by omega) hS6.1, cell_setRow (by show b ≠ w5.heap.size; omega) hS6.2.1, below_setRow _ hS6.2.2 hw5⟩
            have gT : (w6.setRow w5.heap.size R).heap[w5.heap.size]? = some (.cells R 27) := setRow_blk gT0
            refine ⟨hSf, ?_⟩
            try simp only [Act.put, List.setIfInBounds_toArray, List.set_cons_zero, List.set_cons_succ]
            refine wpAnyH_done (by kernel_rfl) ?_ _
            obtain ⟨gSf, _, HBf⟩ := hSf
            replace HBf : Below w.heap.size w _ := HBf
            go_wp2_with (refine load_sk rfl _ rfl _ rfl M _ hS (by exact gSf) ?_)
            refine (dist_to _ M hS x Hx _ okS).mono ?_
            rintro e w7 ⟨rfl, hb⟩
            replace gSf := keep hb gSf
            replace gT := keep hb gT
            replace HBf := bnext HBf hb
            clear hb
            go_wp2_with (refine load_sk rfl _ rfl _ rfl R _ hR (by exact gT) ?_)
            refine (dist_to _ R hR x Hx2 _ okR).mono ?_
            rintro e w8 ⟨rfl, hb⟩
            replace gSf := keep hb gSf
            replace gT := keep hb gT
            replace HBf := bnext HBf hb
            clear hb
            go_wp2_with (first | (refine load_regs rfl _ rfl _ rfl R _ hR (by exact gT) ?_) | (refine load_regs rfl _ rfl _ rfl M _ hS (by exact gSf) ?_) | (refine eql_regs rfl _ _ _ rfl _ okS _ (regsOf_eq _ _ Hr.out) rfl rfl ?_))
            go_ret
            exact ⟨rfl, HBf⟩
end Go.Proofs.Ytpglbakcjihohaa.LFold
