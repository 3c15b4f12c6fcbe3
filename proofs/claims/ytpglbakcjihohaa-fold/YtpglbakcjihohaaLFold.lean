/-
  For every list of events and every two numbers, the statement on the sketch of some events (P3, P4) comes out true and its arguments read as before; no condition.
-/
import Derived.Test.YtpglbakcjihohaaFNil
import Derived.Test.YtpglbakcjihohaaFLaw
namespace Go.Proofs.Ytpglbakcjihohaa.LFold
open Go.ChangeShapes Go.WideShapes Go.ChangeAt Go.RowKit
set_option maxRecDepth 100000
open Go.ChangeMaps (open_string shut_string)
set_option linter.unusedVariables false

theorem walk (a : Option Addr) (n cap : Nat) (l : List Ev) (cut again : Int) (hn : l.length = n) (hcap : n ≤ cap) (hmax : cap ≤ 6000000000000) (hc0 : -9223372036854775808 ≤ cut) (hc1 : cut ≤ 9223372036854775807) (hg0 : -9223372036854775808 ≤ again) (hg1 : again ≤ 9223372036854775807) (w : World)
    (he : Evs w a l) :
    Calls Try.prog 6 #[.slice a n cap, .int .i64 cut, .int .i64 again] w fun e w' => e = .returned (.bool true) ∧ Below w.heap.size w w' := by
  by_cases h0 : n = 0
  · subst h0
    have : l = [] := List.length_eq_zero_iff.1 hn
    subst this
    exact walk_nil a cap cut again hc0 hc1 w
  · rcases he.2 with h | ⟨b, off, ha, hlt, hc⟩
    · rw [h] at hn; simp at hn; omega
    · subst ha
      exact walk_some l b off n cap cut again hn (by omega) hcap hmax hc0 hc1 hg0 hg1 w he

set_option maxRecDepth 100000 in
theorem lifted (os : Os) (started : os.Started) (H : Type) (enc : TypeId × Value → H) :
    ReturnsInHanded {} Try.checked os 6 .any (Rows.foldSpec.pre6 enc Try.prog Try.f6 Rows.foldRow.domain false) (Rows.foldSpec.post enc Try.prog Try.f6 false true false false) := by
  refine returnsInHanded_of_change_sized (C := Try.checked) own started (by kernel_rfl) Try.func6
    (ChangeSpec.witness6 (enc := enc) (C := Try.checked) false ⟨#[], #[.slice none 0 0, .int .i64 0, .int .i64 0], []⟩ 8 (by kernel_rfl) (by kernel_rfl) (by kernel_rfl) (by kernel_rfl)) ?_
  intro W base args ds gs before hval0 hW hcnd hsz _
  have hval : ∀ (j : Nat) t v, Try.f6.params[j]? = some t → args[j]? = some v → Value.okWide Try.prog W .any base t v := hval0
  have hW' := hW
  obtain ⟨p, q, hA0, hV, rfl, hfz, hnd⟩ := hW
  have hA : DataW.TrodAll enc Try.prog W 0 (fun _ => true) true Try.f6.params.toList args.toList ds p := hA0
  rw [Try.params6] at hA hval
  obtain ⟨v0, vs0, d0, ds0, p0, q0, hargs, rfl, rfl, h0, r0⟩ := trodAll_cons hA
  obtain ⟨v1, vs1, d1, ds1, p1, q1, rfl, rfl, rfl, h1, r1⟩ := trodAll_cons r0
  obtain ⟨v2, vs2, d2, ds2, p2, q2, rfl, rfl, rfl, h2, r2⟩ := trodAll_cons r1
  obtain ⟨rfl, rfl, rfl⟩ := trodAll_nil r2
  obtain rfl : args = #[v0, v1, v2] := by cases args; simp_all
  obtain ⟨rfl, rfl⟩ := trodVars_none hV
  have lt0 : ∀ x ∈ p0, x.block < W.heap.size := by obtain ⟨m, hm⟩ := h0; exact DataW.trod_lt m _ _ _ hm
  obtain ⟨a0, n0, cap0, l0, hv0, hn0, he0, hcap0, hd0⟩ := arg_events (hval 0 39 v0 rfl rfl) h0
  have hmax : cap0 ≤ 6000000000000 := by
    rcases hd0 with ⟨_, hc⟩ | ⟨elems, spare, hd, hc⟩
    · omega
    · have hs := sized_slice (P := Try.prog) (j := 0) (t := 39) (e := 43) hsz (by rw [Try.params6]; rfl) (by rw [hd]; rfl) Try.underlying39
      rw [bytesEv, hc] at hs
      have := reachBytes_lt
      omega
  subst hv0
  obtain ⟨a1, rfl, rfl, rfl, w1⟩ := open_int Try.underlying3 (hval 1 3 v1 rfl rfl) h1
  obtain ⟨a2, rfl, rfl, rfl, w2⟩ := open_int Try.underlying3 (hval 2 3 v2 rfl rfl) h2
  clear hA0 hval0
  refine (walk a0 n0 cap0 l0 a1 a2 hn0 hcap0 hmax (bounds_i64 w1).1 (bounds_i64 w1).2 (bounds_i64 w2).1 (bounds_i64 w2).2 W he0).mono fun e W' ⟨he, bel⟩ => ?_
  subst he
  exact ⟨_, rfl, _, _, _, [], _, [], hW', trodAll_mk1 (shut_bool Try.underlying4 _), (trodAll_cons_mk (Below.trod laidOut (by kernel_rfl) (of_decide_eq_true (by kernel_rfl)) h0 bel lt0) (trodAll_cons_mk (shut_int Try.underlying3 w1) (trodAll_cons_mk (shut_int Try.underlying3 w2) trodAll_mk0))), rfl, bel.frame _, fun h => by cases h⟩

theorem over : Rows.foldRow.holds Try.pinned (OpenSpec.ofChange Rows.foldSpec) :=
  OpenClaim.holds_of_wide 6 Try.f6 rfl rfl rfl rfl rfl rfl rfl ⟨rfl, rfl, rfl, rfl, rfl⟩ rfl rfl rfl rfl rfl (by kernel_rfl) Try.func6 (by kernel_rfl)
    (of_decide_eq_true (by kernel_rfl)) (by unfold Func.isWrapper; first | (rw [if_pos (by decide +kernel)]; kernel_rfl) | (rw [if_neg (by decide +kernel)]; exact ⟨rfl, rfl⟩))
    (fun os started H enc _ => lifted os started H enc)
end Go.Proofs.Ytpglbakcjihohaa.LFold

namespace Go.Proofs.Ytpglbakcjihohaa
/-- The statement. -/
theorem fold_holds : Rows.FoldSaid := LFold.over
#print axioms fold_holds
end Go.Proofs.Ytpglbakcjihohaa
