/-
  A list of events that comes in as an argument: its cells hold the events, each a string and a number that fit.
-/
import Derived.Test.YtpglbakcjihohaaFWalk
import Derived.ProofKit
import Derived.OpenShut
import Derived.Deep.SlicePairs
import Derived.SizedLaws
namespace Go.Proofs.Ytpglbakcjihohaa
open Go.RowKit
set_option maxRecDepth 100000

def strOf : Value → ByteArray | .string s => s | _ => ByteArray.empty
theorem cellsEv : Try.prog.cellsOf 43 = 2 := by kernel_rfl
theorem cellsStr : Try.prog.cellsOf 9 = 1 := by kernel_rfl
theorem cellsI : Try.prog.cellsOf 21 = 1 := by kernel_rfl
theorem bytesEv : Try.prog.bytesOf 43 = 24 := by kernel_rfl

theorem arg_events {H : Type} {enc : TypeId × Value → H} {w : World} {r : Reach} {b0 : Nat} {v : Value} {d : DataW H} {p : List MemPlace} (hv : Value.okWide Try.prog w r b0 39 v)
    (h : DataW.Trod enc Try.prog w 0 (fun _ => true) true 39 v d p) :
    ∃ (a : Option Addr) (n cap : Nat) (l : List Ev), v = .slice a n cap ∧ l.length = n ∧ Evs w a l ∧ n ≤ cap ∧ ((d = .nil ∧ cap = 0) ∨ ∃ elems spare : List (DataW H), d = .slice elems spare ∧ elems.length + spare.length = cap) := by
  obtain ⟨a, n, cap, rfl⟩ := WideShapes.okWide_slice Try.underlying39 hv
  obtain ⟨fuel, hf⟩ := h
  rcases Deep.open_slice_pairs Try.underlying39 Try.underlying43 cellsEv rfl rfl cellsStr cellsI hf with ⟨hcs, hx⟩ | ⟨a', len, cap', m, k, V0, V1, D0, D1, P0, P1, hcs, _, hl, hm, hmm, hx, hcell⟩
  · simp [Value.cells] at hcs
    obtain ⟨rfl, rfl, rfl⟩ := hcs
    refine ⟨none, 0, 0, [], rfl, rfl, ⟨fun _ h => (by cases h), .inl rfl⟩, Nat.le_refl _, .inl ⟨?_, rfl⟩⟩
    exact congrArg Prod.fst hx
  · simp [Value.cells] at hcs
    obtain ⟨rfl, rfl, rfl⟩ := hcs
    simp at hmm
    subst hmm
    have each : ∀ i, i < m → ∃ s n, V0 i = .string s ∧ s.size ≤ maxLen ∧ V1 i = .int .i32 n ∧ (Lit.int .i32 n).wf = true := fun i hi => by
      obtain ⟨_, _, h1, h2⟩ := hcell i hi
      obtain ⟨s, e1, _, hs⟩ := DataW.trod_string Try.underlying9 h1
      obtain ⟨n, e2, _, hn⟩ := DataW.trod_int Try.underlying21 h2
      simp at e1 e2
      exact ⟨s, n, e1, hs, e2, hn⟩
    refine ⟨some a', n, m, (List.range n).map fun i => ⟨strOf (V0 i), intOf (V1 i)⟩, rfl, by simp, ⟨?_, ?_⟩, hl, .inr ⟨_, _, congrArg Prod.fst hx, by simp; omega⟩⟩
    · intro e he
      obtain ⟨i, hi, rfl⟩ := List.mem_map.1 he
      have hi' : i < n := by simpa using hi
      obtain ⟨s, x, e1, hs, e2, hx⟩ := each i (by omega)
      have := bounds_i32 hx
      exact ⟨by simp only [e1, strOf]; exact hs, by simp only [e2, intOf]; omega, by simp only [e2, intOf]; omega⟩
    · by_cases hn : n = 0
      · left; subst hn; rfl
      · right
        obtain ⟨b, off, spot⟩ := a'
        have hc0 := (hcell 0 (by omega)).1
        have hspot : spot = none := by simpa [Addr.add] using World.cell?_spot hc0
        subst hspot
        have hb : b < w.heap.size := by have := block_lt_of_cell hc0; simpa [Addr.add] using this
        refine ⟨b, off, rfl, hb, fun i hi => ?_⟩
        have hi' : i < n := by simpa using hi
        obtain ⟨s, x, e1, hs, e2, hx⟩ := each i (by omega)
        obtain ⟨c1, c2, _, _⟩ := hcell i (by omega)
        rw [e1] at c1
        rw [e2] at c2
        rw [Addr.add_mid] at c1 c2
        constructor
        · simpa [e1, strOf] using c1
        · simpa [e2, intOf, Nat.add_assoc] using c2
end Go.Proofs.Ytpglbakcjihohaa
