/-
  For every three sketches, every key and every value, the statement that merging is nothing to order and brackets (P3) comes out true and its arguments read as before; no condition.
-/
import Derived.Test.YtpglbakcjihohaaSingle
import Derived.Test.YtpglbakcjihohaaOpen
import Derived.Deep.DeepCutAuto
import Derived.ShutString
import Derived.ChangeOld
namespace Go.Proofs.Ytpglbakcjihohaa.LMonoid
open Go.ChangeShapes Go.WideShapes Go.ChangeAt Go.RowKit
set_option maxRecDepth 100000
open Go.ChangeMaps (open_string shut_string)
set_option linter.unusedVariables false

theorem own : ownKnob Try.prog.godebug = none := by kernel_rfl
theorem laidOut : laidOutB Try.prog = true := by kernel_rfl
theorem isSk_eq {A B : Array Value} {s : Sk} (h : IsSk A s) (k : IsSk B s) : A = B := Eq.trans (show A = s.cells from h) (show B = s.cells from k).symm

set_option maxHeartbeats 4000000 in
theorem walk (a b c : Sk) (A B C : Array Value) (hA : IsSk A a) (hB : IsSk B b) (hC : IsSk C c) (oka : a.Ok) (okb : b.Ok) (okc : c.Ok) (s : ByteArray) (hs : s.size ≤ maxLen) (v : Int) (h0 : -2147483648 ≤ v) (h1 : v ≤ 2147483647) (w : World) :
    Calls Try.prog 5 #[.agg A, .agg B, .agg C, .string s, .int .i32 v] w fun e w' => e = .returned (.bool true) ∧ Below w.heap.size w w' := by
  have ok1 := one_ok s.data.toList v h0 h1
  have hbk := bkt_lt v h1
  have hn := nts_le (hash s.data.toList)
  have gA := blk_old (o := .cells C 27) (blk_old (o := .cells B 27) (heap_alloc_new w (.cells A 27)))
  have gB := blk_old (o := .cells C 27) (blk2 w (.cells A 27) (.cells B 27))
  have gC := blk3 w (.cells A 27) (.cells B 27) (.cells C 27)
  have HB : Hid (Below w.heap.size w _) := bnext (below_alloc2 w (.cells A 27) (.cells B 27)) (below_alloc _ (.cells C 27))
  go_enter Try.func5, Try.ntmps5
  go_wp2_with fail
  refine (tempty_any _).mono ?_
  rintro e w1 ⟨E, rfl, hE, hb⟩
  replace gA := keep hb gA
  replace gB := keep hb gB
  replace gC := keep hb gC
  replace HB := bnext HB hb
  clear hb
  go_wp2_with (first | (refine alloc_sk rfl rfl ?_; intro Z hZ) | (refine store_sk_new rfl _ _ rfl _ _ _ rfl rfl (by rfl) (by assumption) hZ ?_; clear hZ) | (refine load_sk rfl _ rfl _ rfl _ _ hE (by exact heap_alloc_new _ _) ?_))
  refine (tadd_any Sk.empty E hE Sk.empty_ok s v _ hs h0 h1).mono ?_
  rintro e w2 ⟨O, rfl, hO, hb⟩
  replace gA := keep hb (blk_old gA)
  replace gB := keep hb (blk_old gB)
  replace gC := keep hb (blk_old gC)
  have gE := keep hb (heap_alloc_new _ _)
  replace HB := bnext (bnext HB (below_alloc _ _)) hb
  clear hb
  replace hO := mrg_empty ok1 hO
  go_wp2_with (first | (refine alloc_sk rfl rfl ?_; intro Z hZ) | (refine store_sk_new rfl _ _ rfl _ _ _ rfl rfl (by rfl) (by assumption) hZ ?_; clear hZ) | (refine load_sk rfl _ rfl _ rfl _ _ hO (by exact heap_alloc_new _ _) ?_))
  refine (single_any _ O hO v (hash s.data.toList % 16) (bkt v) (nts (hash s.data.toList) + 1 : Nat) (by omega) hbk (by omega) (by omega) (fun _ => rfl) (fun _ => rfl) (bkt_zero v) (bkt_seven v h1) _).mono ?_
  rintro e w3 ⟨rfl, hb⟩
  replace gA := keep hb (blk_old gA)
  replace gB := keep hb (blk_old gB)
  replace gC := keep hb (blk_old gC)
  replace gE := keep hb (blk_old gE)
  have gO := keep hb (heap_alloc_new _ _)
  replace HB := bnext (bnext HB (below_alloc _ _)) hb
  clear hb
  have o0 : w3.cell? ⟨w2.heap.size, 0, none⟩ = some (.int .u16 1) := by rw [cell_of_row _ _ _ _ _ _ gO]; exact hO.get0
  have o1 : w3.cell? ⟨w2.heap.size, 1, none⟩ = some (.int .u32 (v % 4294967296)) := by rw [cell_of_row _ _ _ _ _ _ gO]; exact hO.get1
  have o2 : w3.cell? ⟨w2.heap.size, 2, none⟩ = some (.int .i32 v) := by rw [cell_of_row _ _ _ _ _ _ gO]; exact hO.get2
  have o3 : w3.cell? ⟨w2.heap.size, 3, none⟩ = some (.int .i32 v) := by rw [cell_of_row _ _ _ _ _ _ gO]; exact hO.get3
  have o4 : w3.cell? ⟨w1.heap.size, 0, none⟩ = some (.int .u16 0) := by rw [cell_of_row _ _ _ _ _ _ gE]; exact hE.get0
  go_upto_if 60 with fail
  clear o0 o1 o2 o3 o4
  go_wp2_with (first | (refine load_sk rfl _ rfl _ rfl _ _ hA (by exact gA) ?_) | (refine load_sk rfl _ rfl _ rfl _ _ hB (by exact gB) ?_))
  refine (tmerge_any a b A B hA hB oka okb _).mono ?_
  rintro e w4 ⟨AB, rfl, hAB, hb⟩
  replace gA := keep hb gA
  replace gB := keep hb gB
  replace gC := keep hb gC
  replace gE := keep hb gE
  replace gO := keep hb gO
  replace HB := bnext HB hb
  clear hb
  go_wp2_with (first | (refine alloc_sk rfl rfl ?_; intro Z hZ) | (refine store_sk_new rfl _ _ rfl _ _ _ rfl rfl (by rfl) (by assumption) hZ ?_; clear hZ) | (refine load_sk rfl _ rfl _ rfl _ _ hA (by exact blk_old gA) ?_) | (refine load_sk rfl _ rfl _ rfl _ _ hB (by exact blk_old gB) ?_))
  refine (tmerge_any b a B A hB hA okb oka _).mono ?_
  rintro e w5 ⟨BA, rfl, hBA, hb⟩
  replace gA := keep hb (blk_old gA)
  replace gB := keep hb (blk_old gB)
  replace gC := keep hb (blk_old gC)
  replace gE := keep hb (blk_old gE)
  replace gO := keep hb (blk_old gO)
  have gAB := keep hb (heap_alloc_new _ _)
  replace HB := bnext (bnext HB (below_alloc _ _)) hb
  clear hb
  obtain rfl := isSk_eq (mrg_comm hBA) hAB
  go_wp2_with (first | (refine alloc_sk rfl rfl ?_; intro Z hZ) | (refine store_sk_new rfl _ _ rfl _ _ _ rfl rfl (by rfl) (by assumption) hZ ?_; clear hZ) | (refine load_sk rfl _ rfl _ rfl _ _ hB (by exact blk_old gB) ?_) | (refine load_sk rfl _ rfl _ rfl _ _ hC (by exact blk_old gC) ?_))
  refine (tmerge_any b c B C hB hC okb okc _).mono ?_
  rintro e w6 ⟨BC, rfl, hBC, hb⟩
  replace gA := keep hb (blk_old gA)
  replace gB := keep hb (blk_old gB)
  replace gC := keep hb (blk_old gC)
  replace gE := keep hb (blk_old gE)
  replace gO := keep hb (blk_old gO)
  replace gAB := keep hb (blk_old gAB)
  have gBA := keep hb (heap_alloc_new _ _)
  replace HB := bnext (bnext HB (below_alloc _ _)) hb
  clear hb
  go_wp2_with (first | (refine alloc_sk rfl rfl ?_; intro Z hZ) | (refine store_sk_new rfl _ _ rfl _ _ _ rfl rfl (by rfl) (by assumption) hZ ?_; clear hZ) | (refine load_sk rfl _ rfl _ rfl _ _ hC (by exact blk_old gC) ?_) | (refine load_sk rfl _ rfl _ rfl _ _ hAB (by exact blk_old gAB) ?_))
  refine (tmerge_any (mrg a b) c BA C hAB hC (mrg_ok oka okb) okc _).mono ?_
  rintro e w7 ⟨LL, rfl, hLL, hb⟩
  replace gA := keep hb (blk_old gA)
  replace gB := keep hb (blk_old gB)
  replace gC := keep hb (blk_old gC)
  replace gE := keep hb (blk_old gE)
  replace gO := keep hb (blk_old gO)
  replace gAB := keep hb (blk_old gAB)
  replace gBA := keep hb (blk_old gBA)
  have gBC := keep hb (heap_alloc_new _ _)
  replace HB := bnext (bnext HB (below_alloc _ _)) hb
  clear hb
  go_wp2_with (first | (refine alloc_sk rfl rfl ?_; intro Z hZ) | (refine store_sk_new rfl _ _ rfl _ _ _ rfl rfl (by rfl) (by assumption) hZ ?_; clear hZ) | (refine load_sk rfl _ rfl _ rfl _ _ hA (by exact blk_old gA) ?_) | (refine load_sk rfl _ rfl _ rfl _ _ hBC (by exact blk_old gBC) ?_))
  refine (tmerge_any a (mrg b c) A BC hA hBC oka (mrg_ok okb okc) _).mono ?_
  rintro e w8 ⟨RR, rfl, hRR, hb⟩
  replace gA := keep hb (blk_old gA)
  replace gB := keep hb (blk_old gB)
  replace gC := keep hb (blk_old gC)
  replace gE := keep hb (blk_old gE)
  replace gO := keep hb (blk_old gO)
  replace gAB := keep hb (blk_old gAB)
  replace gBA := keep hb (blk_old gBA)
  replace gBC := keep hb (blk_old gBC)
  have gLL := keep hb (heap_alloc_new _ _)
  replace HB := bnext (bnext HB (below_alloc _ _)) hb
  clear hb
  obtain rfl := isSk_eq (mrg_assoc oka okb okc hRR) hLL
  go_wp2_with (first | (refine alloc_sk rfl rfl ?_; intro Z hZ) | (refine store_sk_new rfl _ _ rfl _ _ _ rfl rfl (by rfl) (by assumption) hZ ?_; clear hZ) | (refine load_sk rfl _ rfl _ rfl _ _ hA (by exact blk_old gA) ?_) | (refine load_sk rfl _ rfl _ rfl _ _ hE (by exact blk_old gE) ?_))
  refine (tmerge_any a Sk.empty A E hA hE oka Sk.empty_ok _).mono ?_
  rintro e w9 ⟨SM, rfl, hSM, hb⟩
  replace gA := keep hb (blk_old gA)
  replace gB := keep hb (blk_old gB)
  replace gC := keep hb (blk_old gC)
  replace gE := keep hb (blk_old gE)
  replace gO := keep hb (blk_old gO)
  replace gAB := keep hb (blk_old gAB)
  replace gBA := keep hb (blk_old gBA)
  replace gBC := keep hb (blk_old gBC)
  replace gLL := keep hb (blk_old gLL)
  have gRR := keep hb (heap_alloc_new _ _)
  replace HB := bnext (bnext HB (below_alloc _ _)) hb
  clear hb
  obtain rfl := isSk_eq (mrg_empty' oka hSM) hA
  go_wp2_with (first | (refine alloc_sk rfl rfl ?_; intro Z hZ) | (refine store_sk_new rfl _ _ rfl _ _ _ rfl rfl (by rfl) (by assumption) hZ ?_; clear hZ) | (refine load_sk rfl _ rfl _ rfl _ _ hA (by exact blk_old gA) ?_))
  refine (tadd_any a _ hA oka s v _ hs h0 h1).mono ?_
  rintro e w10 ⟨AD, rfl, hAD, hb⟩
  replace gA := keep hb (blk_old gA)
  replace gB := keep hb (blk_old gB)
  replace gC := keep hb (blk_old gC)
  replace gE := keep hb (blk_old gE)
  replace gO := keep hb (blk_old gO)
  replace gAB := keep hb (blk_old gAB)
  replace gBA := keep hb (blk_old gBA)
  replace gBC := keep hb (blk_old gBC)
  replace gLL := keep hb (blk_old gLL)
  replace gRR := keep hb (blk_old gRR)
  have gSM := keep hb (heap_alloc_new _ _)
  replace HB := bnext (bnext HB (below_alloc _ _)) hb
  clear hb
  go_wp2_with (first | (refine alloc_sk rfl rfl ?_; intro Z hZ) | (refine store_sk_new rfl _ _ rfl _ _ _ rfl rfl (by rfl) (by assumption) hZ ?_; clear hZ) | (refine load_sk rfl _ rfl _ rfl _ _ hA (by exact blk_old gA) ?_) | (refine load_sk rfl _ rfl _ rfl _ _ hO (by exact blk_old gO) ?_))
  refine (tmerge_any a (one s.data.toList v) _ O hA hO oka ok1 _).mono ?_
  rintro e w11 ⟨MG, rfl, hMG, hb⟩
  replace gA := keep hb (blk_old gA)
  replace gB := keep hb (blk_old gB)
  replace gC := keep hb (blk_old gC)
  replace gE := keep hb (blk_old gE)
  replace gO := keep hb (blk_old gO)
  replace gAB := keep hb (blk_old gAB)
  replace gBA := keep hb (blk_old gBA)
  replace gBC := keep hb (blk_old gBC)
  replace gLL := keep hb (blk_old gLL)
  replace gRR := keep hb (blk_old gRR)
  replace gSM := keep hb (blk_old gSM)
  have gAD := keep hb (heap_alloc_new _ _)
  replace HB := bnext (bnext HB (below_alloc _ _)) hb
  clear hb
  obtain rfl := isSk_eq hMG hAD
  go_wp2_with (first | (refine alloc_sk rfl rfl ?_; intro Z hZ) | (refine store_sk_new rfl _ _ rfl _ _ _ rfl rfl (by rfl) (by assumption) hZ ?_; clear hZ) | (refine load_sk_g (by rfl) _ rfl _ rfl _ _ hAB (by exact blk_old gAB) ?_) | (refine load_sk_g (by rfl) _ rfl _ rfl _ _ hAB (by exact blk_old gBA) ?_) | (refine load_sk_g (by rfl) _ rfl _ rfl _ _ hLL (by exact blk_old gLL) ?_) | (refine load_sk_g (by rfl) _ rfl _ rfl _ _ hLL (by exact blk_old gRR) ?_) | (refine load_sk_g (by rfl) _ rfl _ rfl _ _ hA (by exact blk_old gSM) ?_) | (refine load_sk_g (by rfl) _ rfl _ rfl _ _ hA (by exact blk_old gA) ?_) | (refine load_sk_g (by rfl) _ rfl _ rfl _ _ hAD (by exact blk_old gAD) ?_) | (refine load_sk_g (by rfl) _ rfl _ rfl _ _ hAD (by exact heap_alloc_new _ _) ?_) | (refine eql_sk_g (by rfl) _ _ _ rfl _ _ hAB (mrg_ok oka okb) rfl rfl ?_) | (refine eql_sk_g (by rfl) _ _ _ rfl _ _ hLL (mrg_ok (mrg_ok oka okb) okc) rfl rfl ?_) | (refine eql_sk_g (by rfl) _ _ _ rfl _ _ hA oka rfl rfl ?_) | (refine eql_sk_g (by rfl) _ _ _ rfl _ _ hAD (mrg_ok oka ok1) rfl rfl ?_))
  go_ret
  exact ⟨rfl, bnext HB (below_alloc _ _)⟩

set_option maxRecDepth 100000 in
theorem lifted (os : Os) (started : os.Started) (H : Type) (enc : TypeId × Value → H) :
    ReturnsInHanded {} Try.checked os 5 .any (Rows.monoidSpec.pre6 enc Try.prog Try.f5 Rows.monoidRow.domain false) (Rows.monoidSpec.post enc Try.prog Try.f5 false true false false) := by
  refine returnsInHanded_of_change (C := Try.checked) own started (by kernel_rfl) Try.func5
    (ChangeSpec.witness6 (enc := enc) (C := Try.checked) false ⟨#[], #[.agg (Sk.mk 0 0 0 0 (fun _ => 0) (fun _ => 0)).cells, .agg (Sk.mk 0 0 0 0 (fun _ => 0) (fun _ => 0)).cells, .agg (Sk.mk 0 0 0 0 (fun _ => 0) (fun _ => 0)).cells, .string ByteArray.empty, .int .i32 0], []⟩ 8 (by kernel_rfl) (by kernel_rfl) (by kernel_rfl) (by kernel_rfl)) ?_
  intro W base args ds gs before hval0 hW hcnd _
  have hval : ∀ (j : Nat) t v, Try.f5.params[j]? = some t → args[j]? = some v → Value.okWide Try.prog W .any base t v := hval0
  have hW' := hW
  obtain ⟨p, q, hA0, hV, rfl, hfz, hnd⟩ := hW
  have hA : DataW.TrodAll enc Try.prog W 0 (fun _ => true) true Try.f5.params.toList args.toList ds p := hA0
  rw [Try.params5] at hA hval
  obtain ⟨v0, vs0, d0, ds0, p0, q0, hargs, rfl, rfl, h0, r0⟩ := trodAll_cons hA
  obtain ⟨v1, vs1, d1, ds1, p1, q1, rfl, rfl, rfl, h1, r1⟩ := trodAll_cons r0
  obtain ⟨v2, vs2, d2, ds2, p2, q2, rfl, rfl, rfl, h2, r2⟩ := trodAll_cons r1
  obtain ⟨v3, vs3, d3, ds3, p3, q3, rfl, rfl, rfl, h3, r3⟩ := trodAll_cons r2
  obtain ⟨v4, vs4, d4, ds4, p4, q4, rfl, rfl, rfl, h4, r4⟩ := trodAll_cons r3
  obtain ⟨rfl, rfl, rfl⟩ := trodAll_nil r4
  obtain rfl : args = #[v0, v1, v2, v3, v4] := by cases args; simp_all
  obtain ⟨rfl, rfl⟩ := trodVars_none hV
  have lt0 : ∀ x ∈ p0, x.block < W.heap.size := by obtain ⟨m, hm⟩ := h0; exact DataW.trod_lt m _ _ _ hm
  obtain ⟨A0, s0, rfl, e0, ok0⟩ := arg_sk (hval 0 27 v0 rfl rfl) h0
  have lt1 : ∀ x ∈ p1, x.block < W.heap.size := by obtain ⟨m, hm⟩ := h1; exact DataW.trod_lt m _ _ _ hm
  obtain ⟨A1, s1, rfl, e1, ok1⟩ := arg_sk (hval 1 27 v1 rfl rfl) h1
  have lt2 : ∀ x ∈ p2, x.block < W.heap.size := by obtain ⟨m, hm⟩ := h2; exact DataW.trod_lt m _ _ _ hm
  obtain ⟨A2, s2, rfl, e2, ok2⟩ := arg_sk (hval 2 27 v2 rfl rfl) h2
  obtain ⟨a3, rfl, rfl, rfl, w3⟩ := open_string Try.underlying9 (hval 3 9 v3 rfl rfl) h3
  obtain ⟨a4, rfl, rfl, rfl, w4⟩ := open_int Try.underlying21 (hval 4 21 v4 rfl rfl) h4
  clear hA0 hval0
  refine (walk s0 s1 s2 A0 A1 A2 e0 e1 e2 ok0 ok1 ok2 a3 w3 a4 (bounds_i32 w4).1 (bounds_i32 w4).2 W).mono fun e W' ⟨he, bel⟩ => ?_
  subst he
  exact ⟨_, rfl, _, _, _, [], _, [], hW', trodAll_mk1 (shut_bool Try.underlying4 _), (trodAll_cons_mk (Below.trod laidOut (by kernel_rfl) (of_decide_eq_true (by kernel_rfl)) h0 bel lt0) (trodAll_cons_mk (Below.trod laidOut (by kernel_rfl) (of_decide_eq_true (by kernel_rfl)) h1 bel lt1) (trodAll_cons_mk (Below.trod laidOut (by kernel_rfl) (of_decide_eq_true (by kernel_rfl)) h2 bel lt2) (trodAll_cons_mk (shut_string Try.underlying9 w3) (trodAll_cons_mk (shut_int Try.underlying21 w4) trodAll_mk0))))), rfl, bel.frame _, fun h => by cases h⟩

theorem over : Rows.monoidRow.holds Try.pinned (OpenSpec.ofChange Rows.monoidSpec) :=
  OpenClaim.holds_of_wide 5 Try.f5 rfl rfl rfl rfl rfl rfl rfl ⟨rfl, rfl, rfl, rfl, rfl⟩ rfl rfl rfl rfl rfl (by kernel_rfl) Try.func5 (by kernel_rfl)
    (of_decide_eq_true (by kernel_rfl)) (by unfold Func.isWrapper; first | (rw [if_pos (by decide +kernel)]; kernel_rfl) | (rw [if_neg (by decide +kernel)]; exact ⟨rfl, rfl⟩))
    (fun os started H enc _ => lifted os started H enc)
end Go.Proofs.Ytpglbakcjihohaa.LMonoid

namespace Go.Proofs.Ytpglbakcjihohaa
/-- The statement. -/
theorem monoid_holds : Rows.MonoidSaid := LMonoid.over
#print axioms monoid_holds
end Go.Proofs.Ytpglbakcjihohaa
