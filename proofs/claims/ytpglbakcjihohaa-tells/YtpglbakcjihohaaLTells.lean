/-
  For every sketch and every part, the statement on Distinct and Rank (P4, P5) comes out true and its arguments read as before; no condition.
-/
import Derived.Test.YtpglbakcjihohaaRows
import Derived.Test.YtpglbakcjihohaaTell
import Derived.Test.YtpglbakcjihohaaOpen
import Derived.ShutString
import Derived.ChangeOld
namespace Go.Proofs.Ytpglbakcjihohaa.LTells
open Go.ChangeShapes Go.WideShapes Go.ChangeAt Go.RowKit
set_option maxRecDepth 100000
open Go.ChangeMaps (open_string shut_string)
set_option linter.unusedVariables false

theorem own : ownKnob Try.prog.godebug = none := by kernel_rfl
theorem laidOut : laidOutB Try.prog = true := by kernel_rfl

set_option maxHeartbeats 400000 in
theorem walk (s : Sk) (A : Array Value) (hA : IsSk A s) (ok : s.Ok) (p : Int) (w : World) :
    Calls Try.prog 4 #[.agg A, .int .i64 p] w fun e w' => e = .returned (.bool true) ∧ Below w.heap.size w w' := by
  have hsz := hA.size
  have hi : (Try.prog.info? 27).map (·.size) = some A.size := by rw [hsz]; kernel_rfl
  have hg := heap_alloc_new w (.cells A 27)
  have HB := below_alloc w (.cells A 27)
  go_enter Try.func4, Try.ntmps4
  go_wp2_with (first | (refine wpList_load_row rfl 27 _ rfl _ rfl 27 A (0, 0) _ hg Try.underlying27 rfl hi ?_) | (go_at_call 18; refine (tdistinct_any s A hA _ ok).mono ?_; rintro e w1 ⟨rfl, hb⟩; replace hg := keep hb hg; replace HB := bnext HB hb; clear hb) | (go_at_call 19; refine (rdistinct_any s A hA _ ok).mono ?_; rintro e w1 ⟨rfl, hb⟩; replace hg := keep hb hg; replace HB := bnext HB hb; clear hb) | (go_at_call 20; refine (trank_any s A hA _ _ ok).mono ?_; rintro e w1 ⟨rfl, hb⟩; replace hg := keep hb hg; replace HB := bnext HB hb; clear hb) | (go_at_call 21; refine (rrank_any s A hA _ _ ok).mono ?_; rintro e w1 ⟨rfl, hb⟩; replace hg := keep hb hg; replace HB := bnext HB hb; clear hb))
  go_ret
  exact ⟨rfl, HB⟩

set_option maxRecDepth 100000 in
theorem lifted (os : Os) (started : os.Started) (H : Type) (enc : TypeId × Value → H) :
    ReturnsInHanded {} Try.checked os 4 .any (Rows.tellsSpec.pre6 enc Try.prog Try.f4 Rows.tellsRow.domain false) (Rows.tellsSpec.post enc Try.prog Try.f4 false true false false) := by
  refine returnsInHanded_of_change (C := Try.checked) own started (by kernel_rfl) Try.func4
    (ChangeSpec.witness6 (enc := enc) (C := Try.checked) false ⟨#[], #[.agg (Sk.mk 0 0 0 0 (fun _ => 0) (fun _ => 0)).cells, .int .i64 0], []⟩ 8 (by kernel_rfl) (by kernel_rfl) (by kernel_rfl) (by kernel_rfl)) ?_
  intro W base args ds gs before hval0 hW hcnd _
  have hval : ∀ (j : Nat) t v, Try.f4.params[j]? = some t → args[j]? = some v → Value.okWide Try.prog W .any base t v := hval0
  have hW' := hW
  obtain ⟨p, q, hA0, hV, rfl, hfz, hnd⟩ := hW
  have hA : DataW.TrodAll enc Try.prog W 0 (fun _ => true) true Try.f4.params.toList args.toList ds p := hA0
  rw [Try.params4] at hA hval
  obtain ⟨v0, vs0, d0, ds0, p0, q0, hargs, rfl, rfl, h0, r0⟩ := trodAll_cons hA
  obtain ⟨v1, vs1, d1, ds1, p1, q1, rfl, rfl, rfl, h1, r1⟩ := trodAll_cons r0
  obtain ⟨rfl, rfl, rfl⟩ := trodAll_nil r1
  obtain rfl : args = #[v0, v1] := by cases args; simp_all
  obtain ⟨rfl, rfl⟩ := trodVars_none hV
  have lt0 : ∀ x ∈ p0, x.block < W.heap.size := by obtain ⟨m, hm⟩ := h0; exact DataW.trod_lt m _ _ _ hm
  obtain ⟨A0, s0, rfl, e0, ok0⟩ := arg_sk (hval 0 27 v0 rfl rfl) h0
  obtain ⟨a1, rfl, rfl, rfl, w1⟩ := open_int Try.underlying3 (hval 1 3 v1 rfl rfl) h1
  clear hA0 hval0
  refine (walk s0 A0 e0 ok0 a1 W).mono fun e W' ⟨he, bel⟩ => ?_
  subst he
  exact ⟨_, rfl, _, _, _, [], _, [], hW', trodAll_mk1 (shut_bool Try.underlying4 _), (trodAll_cons_mk (Below.trod laidOut (by kernel_rfl) (of_decide_eq_true (by kernel_rfl)) h0 bel lt0) (trodAll_cons_mk (shut_int Try.underlying3 w1) trodAll_mk0)), rfl, bel.frame _, fun h => by cases h⟩

theorem over : Rows.tellsRow.holds Try.pinned (OpenSpec.ofChange Rows.tellsSpec) :=
  OpenClaim.holds_of_wide 4 Try.f4 rfl rfl rfl rfl rfl rfl rfl ⟨rfl, rfl, rfl, rfl, rfl⟩ rfl rfl rfl rfl rfl (by kernel_rfl) Try.func4 (by kernel_rfl)
    (of_decide_eq_true (by kernel_rfl)) (by unfold Func.isWrapper; first | (rw [if_pos (by decide +kernel)]; kernel_rfl) | (rw [if_neg (by decide +kernel)]; exact ⟨rfl, rfl⟩))
    (fun os started H enc _ => lifted os started H enc)
end Go.Proofs.Ytpglbakcjihohaa.LTells

namespace Go.Proofs.Ytpglbakcjihohaa
/-- The statement. -/
theorem tells_holds : Rows.TellsSaid := LTells.over
#print axioms tells_holds
end Go.Proofs.Ytpglbakcjihohaa
