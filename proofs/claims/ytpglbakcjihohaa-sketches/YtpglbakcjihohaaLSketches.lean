/-
  For every two sketches, every key and every value, the statement on Hash, Empty, Add and Merge (P3) comes out true and its arguments read as before; no condition.
-/
import Derived.Test.YtpglbakcjihohaaEq
import Derived.Test.YtpglbakcjihohaaOpen
import Derived.ShutString
import Derived.ChangeOld
namespace Go.Proofs.Ytpglbakcjihohaa.LSketches
open Go.ChangeShapes Go.WideShapes Go.ChangeAt Go.RowKit
set_option maxRecDepth 100000
open Go.ChangeMaps (open_string shut_string)
set_option linter.unusedVariables false

theorem own : ownKnob Try.prog.godebug = none := by kernel_rfl
theorem laidOut : laidOutB Try.prog = true := by kernel_rfl

theorem thash_any (s : ByteArray) (w : World) (hs : s.size ≤ maxLen) :
    Calls Try.prog 10 #[.string s] w fun e w' => e = .returned (.int .u32 (hash s.data.toList)) ∧ w' = w := by
  go_enter Try.func10, Try.ntmps10
  go_wp2_with (go_at_call 34; refine (hash_any s _ hs).mono ?_; rintro e w1 ⟨rfl, rfl⟩)
  go_ret
  exact ⟨rfl, rfl⟩
theorem rhash_below (s : ByteArray) (w : World) (hs : s.size ≤ maxLen) :
    Calls Try.prog 14 #[.string s] w fun e w' => e = .returned (.int .u32 (hash s.data.toList)) ∧ Below w.heap.size w w' :=
  (rhash_any s w hs).mono fun _ _ ⟨h, n, hn⟩ => ⟨h, hn ▸ below_drewN (Below.refl _ _) n⟩
theorem isSk_eq {A B : Array Value} {s : Sk} (h : IsSk A s) (k : IsSk B s) : A = B := Eq.trans (show A = s.cells from h) (show B = s.cells from k).symm

set_option maxHeartbeats 2000000 in
theorem walk (a b : Sk) (A B : Array Value) (hA : IsSk A a) (hB : IsSk B b) (oka : a.Ok) (okb : b.Ok) (s : ByteArray) (hs : s.size ≤ maxLen) (v : Int) (h0 : -2147483648 ≤ v) (h1 : v ≤ 2147483647) (w : World) :
    Calls Try.prog 3 #[.agg A, .agg B, .string s, .int .i32 v] w fun e w' => e = .returned (.bool true) ∧ Below w.heap.size w w' := by
  have okx := mrg_ok oka (one_ok s.data.toList v h0 h1)
  have okm := mrg_ok oka okb
  obtain ⟨H, HH⟩ : ∃ H, Hid (hash s.data.toList = H) := ⟨_, by unfold Hid; rfl⟩
  have gA := blk_old (o := .cells B 27) (heap_alloc_new w (.cells A 27))
  have gB := blk2 w (.cells A 27) (.cells B 27)
  have HB : Hid (Below w.heap.size w _) := below_alloc2 w (.cells A 27) (.cells B 27)
  go_enter Try.func3, Try.ntmps3
  go_wp2_with (first | (refine alloc_sk rfl rfl ?_; intro Z hZ) | (refine store_sk_new rfl _ _ rfl _ _ _ rfl rfl (by rfl) (by assumption) hZ ?_; clear hZ) | (go_at_call 10; refine (thash_any s _ hs).mono ?_; rintro e w1 ⟨rfl, rfl⟩; rw [HH.out]) | (go_at_call 11; refine (tempty_any _).mono ?_; rintro e w1 ⟨E, rfl, hE, hb⟩; replace gA := keep hb gA; replace gB := keep hb gB; replace HB := bnext HB hb; clear hb) | (go_at_call 12; refine (tadd_any a A hA oka s v _ hs h0 h1).mono ?_; rintro e w2 ⟨X, rfl, hX, hb⟩; replace gA := keep hb (blk_old gA); replace gB := keep hb (blk_old gB); have gE := keep hb (heap_alloc_new _ _); replace HB := bnext (bnext HB (below_alloc _ _)) hb; clear hb) | (go_at_call 13; refine (tmerge_any a b A B hA hB oka okb _).mono ?_; rintro e w3 ⟨M, rfl, hM, hb⟩; replace gA := keep hb (blk_old gA); replace gB := keep hb (blk_old gB); replace gE := keep hb (blk_old gE); have gX := keep hb (heap_alloc_new _ _); replace HB := bnext (bnext HB (below_alloc _ _)) hb; clear hb) | (go_at_call 14; refine (rhash_below s _ hs).mono ?_; rintro e w4 ⟨rfl, hb⟩; rw [HH.out]; replace gA := keep hb (blk_old gA); replace gB := keep hb (blk_old gB); replace gE := keep hb (blk_old gE); replace gX := keep hb (blk_old gX); have gM := keep hb (heap_alloc_new _ _); replace HB := bnext (bnext HB (below_alloc _ _)) hb; clear hb) | (go_at_call 15; refine (rempty_any _).mono ?_; rintro e w5 ⟨F, rfl, hF, hb⟩; replace gA := keep hb gA; replace gB := keep hb gB; replace gE := keep hb gE; replace gX := keep hb gX; replace gM := keep hb gM; replace HB := bnext HB hb; clear hb; obtain rfl := isSk_eq hF hE) | (go_at_call 16; refine (radd_any a A hA oka s v _ hs h0 h1).mono ?_; rintro e w6 ⟨Y, rfl, hY, hb⟩; replace gA := keep hb (blk_old gA); replace gB := keep hb (blk_old gB); replace gE := keep hb (blk_old gE); replace gX := keep hb (blk_old gX); replace gM := keep hb (blk_old gM); have gF := keep hb (heap_alloc_new _ _); replace HB := bnext (bnext HB (below_alloc _ _)) hb; clear hb; obtain rfl := isSk_eq hY hX) | (go_at_call 17; refine (rmerge_any a b A B hA hB oka okb _).mono ?_; rintro e w7 ⟨R, rfl, hR, hb⟩; replace gA := keep hb (blk_old gA); replace gB := keep hb (blk_old gB); replace gE := keep hb (blk_old gE); replace gX := keep hb (blk_old gX); replace gM := keep hb (blk_old gM); replace gF := keep hb (blk_old gF); have gY := keep hb (heap_alloc_new _ _); replace HB := bnext (bnext HB (below_alloc _ _)) hb; clear hb; obtain rfl := isSk_eq hR hM) | (refine load_sk rfl _ rfl _ rfl A _ hA (by exact blk_old gA) ?_) | (refine load_sk rfl _ rfl _ rfl B _ hB (by exact blk_old gB) ?_) | (refine load_sk_g (by rfl) _ rfl _ rfl _ _ hF (by first | exact blk_old gE | exact blk_old gF) ?_) | (refine load_sk_g (by rfl) _ rfl _ rfl _ _ hY (by first | exact blk_old gX | exact blk_old gY) ?_) | (refine load_sk_g (by rfl) _ rfl _ rfl _ _ hR (by first | exact blk_old gM | exact heap_alloc_new _ _) ?_) | (refine eql_sk_g (by rfl) _ _ _ rfl _ _ hF Sk.empty_ok rfl rfl ?_) | (refine eql_sk_g (by rfl) _ _ _ rfl _ _ hY okx rfl rfl ?_) | (refine eql_sk_g (by rfl) _ _ _ rfl _ _ hR okm rfl rfl ?_))
  go_ret
  exact ⟨rfl, bnext HB (below_alloc _ _)⟩

set_option maxRecDepth 100000 in
theorem lifted (os : Os) (started : os.Started) (H : Type) (enc : TypeId × Value → H) :
    ReturnsInHanded {} Try.checked os 3 .any (Rows.sketchesSpec.pre6 enc Try.prog Try.f3 Rows.sketchesRow.domain false) (Rows.sketchesSpec.post enc Try.prog Try.f3 false true false false) := by
  refine returnsInHanded_of_change (C := Try.checked) own started (by kernel_rfl) Try.func3
    (ChangeSpec.witness6 (enc := enc) (C := Try.checked) false ⟨#[], #[.agg (Sk.mk 0 0 0 0 (fun _ => 0) (fun _ => 0)).cells, .agg (Sk.mk 0 0 0 0 (fun _ => 0) (fun _ => 0)).cells, .string ByteArray.empty, .int .i32 0], []⟩ 8 (by kernel_rfl) (by kernel_rfl) (by kernel_rfl) (by kernel_rfl)) ?_
  intro W base args ds gs before hval0 hW hcnd _
  have hval : ∀ (j : Nat) t v, Try.f3.params[j]? = some t → args[j]? = some v → Value.okWide Try.prog W .any base t v := hval0
  have hW' := hW
  obtain ⟨p, q, hA0, hV, rfl, hfz, hnd⟩ := hW
  have hA : DataW.TrodAll enc Try.prog W 0 (fun _ => true) true Try.f3.params.toList args.toList ds p := hA0
  rw [Try.params3] at hA hval
  obtain ⟨v0, vs0, d0, ds0, p0, q0, hargs, rfl, rfl, h0, r0⟩ := trodAll_cons hA
  obtain ⟨v1, vs1, d1, ds1, p1, q1, rfl, rfl, rfl, h1, r1⟩ := trodAll_cons r0
  obtain ⟨v2, vs2, d2, ds2, p2, q2, rfl, rfl, rfl, h2, r2⟩ := trodAll_cons r1
  obtain ⟨v3, vs3, d3, ds3, p3, q3, rfl, rfl, rfl, h3, r3⟩ := trodAll_cons r2
  obtain ⟨rfl, rfl, rfl⟩ := trodAll_nil r3
  obtain rfl : args = #[v0, v1, v2, v3] := by cases args; simp_all
  obtain ⟨rfl, rfl⟩ := trodVars_none hV
  have lt0 : ∀ x ∈ p0, x.block < W.heap.size := by obtain ⟨m, hm⟩ := h0; exact DataW.trod_lt m _ _ _ hm
  obtain ⟨A0, s0, rfl, e0, ok0⟩ := arg_sk (hval 0 27 v0 rfl rfl) h0
  have lt1 : ∀ x ∈ p1, x.block < W.heap.size := by obtain ⟨m, hm⟩ := h1; exact DataW.trod_lt m _ _ _ hm
  obtain ⟨A1, s1, rfl, e1, ok1⟩ := arg_sk (hval 1 27 v1 rfl rfl) h1
  obtain ⟨a2, rfl, rfl, rfl, w2⟩ := open_string Try.underlying9 (hval 2 9 v2 rfl rfl) h2
  obtain ⟨a3, rfl, rfl, rfl, w3⟩ := open_int Try.underlying21 (hval 3 21 v3 rfl rfl) h3
  clear hA0 hval0
  refine (walk s0 s1 A0 A1 e0 e1 ok0 ok1 a2 w2 a3 (bounds_i32 w3).1 (bounds_i32 w3).2 W).mono fun e W' ⟨he, bel⟩ => ?_
  subst he
  exact ⟨_, rfl, _, _, _, [], _, [], hW', trodAll_mk1 (shut_bool Try.underlying4 _), (trodAll_cons_mk (Below.trod laidOut (by kernel_rfl) (of_decide_eq_true (by kernel_rfl)) h0 bel lt0) (trodAll_cons_mk (Below.trod laidOut (by kernel_rfl) (of_decide_eq_true (by kernel_rfl)) h1 bel lt1) (trodAll_cons_mk (shut_string Try.underlying9 w2) (trodAll_cons_mk (shut_int Try.underlying21 w3) trodAll_mk0)))), rfl, bel.frame _, fun h => by cases h⟩

theorem over : Rows.sketchesRow.holds Try.pinned (OpenSpec.ofChange Rows.sketchesSpec) :=
  OpenClaim.holds_of_wide 3 Try.f3 rfl rfl rfl rfl rfl rfl rfl ⟨rfl, rfl, rfl, rfl, rfl⟩ rfl rfl rfl rfl rfl (by kernel_rfl) Try.func3 (by kernel_rfl)
    (of_decide_eq_true (by kernel_rfl)) (by unfold Func.isWrapper; first | (rw [if_pos (by decide +kernel)]; kernel_rfl) | (rw [if_neg (by decide +kernel)]; exact ⟨rfl, rfl⟩))
    (fun os started H enc _ => lifted os started H enc)
end Go.Proofs.Ytpglbakcjihohaa.LSketches

namespace Go.Proofs.Ytpglbakcjihohaa
/-- The statement. -/
theorem sketches_holds : Rows.SketchesSaid := LSketches.over
#print axioms sketches_holds
end Go.Proofs.Ytpglbakcjihohaa
