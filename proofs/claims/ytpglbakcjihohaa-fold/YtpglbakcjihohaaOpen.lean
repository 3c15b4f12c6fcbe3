/-
  A sketch that comes in as an argument is twenty-eight cells, each a number that fits its kind.
-/
import Derived.Test.YtpglbakcjihohaaRows
import Derived.Test.YtpglbakcjihohaaBase
import Derived.ProofKit
import Derived.OpenShut
namespace Go.Proofs.Ytpglbakcjihohaa
open Go.RowKit
set_option maxRecDepth 100000

theorem cellsSk : Try.prog.cellsOf 27 = 28 := by kernel_rfl
theorem cellsU16 : Try.prog.cellsOf 22 = 1 := by kernel_rfl
theorem cellsU32 : Try.prog.cellsOf 23 = 1 := by kernel_rfl
theorem cellsI32 : Try.prog.cellsOf 21 = 1 := by kernel_rfl
theorem cellsU8 : Try.prog.cellsOf 5 = 1 := by kernel_rfl
theorem cellsRegs : Try.prog.cellsOf 24 = 16 := by kernel_rfl
theorem cellsHist : Try.prog.cellsOf 25 = 8 := by kernel_rfl

theorem one_of_drop {cs : List Value} {i : Nat} {v : Value} (h : (cs.drop i).take 1 = [v]) : cs[i]? = some v := by
  have := congrArg (fun l => l[0]?) h
  simpa [List.getElem?_take, List.getElem?_drop] using this

section
variable {H : Type} {enc : TypeId × Value → H} {w : World} {base : Nat} {spare : Nat → Bool} {held : Bool}

/-- One cell of an integer kind. -/
theorem cell_int {fuel : Nat} {t : TypeId} {k : IntKind} {cs : List Value} {i : Nat} {x : DataW H × List MemPlace} (ht : Try.prog.underlying t = some (.int k))
    (h : DataW.trod enc Try.prog w base spare held fuel t ((cs.drop i).take 1) = some x) : ∃ n, cs[i]? = some (.int k n) ∧ (Lit.int k n).wf = true := by
  obtain ⟨n, e, _, hw⟩ := DataW.trod_int ht h
  exact ⟨n, one_of_drop e, hw⟩

/-- A row of bytes from offset o on. -/
theorem cells_bytes {fuel : Nat} {t : TypeId} {m o : Nat} {cs : List Value} {x : DataW H × List MemPlace} (ht : Try.prog.underlying t = some (.array m 5))
    (h : DataW.trod enc Try.prog w base spare held fuel t ((cs.drop o).take m) = some x) :
    ∀ i, i < m → ∃ n, cs[o + i]? = some (.int .u8 n) ∧ (Lit.int .u8 n).wf = true := by
  obtain ⟨xs, f, _, _, _, hlen, hx⟩ := DataW.trod_array ht h
  intro i hi
  have h1 := hx i hi
  rw [cellsU8, Nat.mul_one, List.getElem?_eq_getElem (by omega)] at h1
  obtain ⟨n, e, hw⟩ := cell_int (k := .u8) Try.underlying5 h1
  refine ⟨n, ?_, hw⟩
  rw [List.getElem?_take, if_pos hi, List.getElem?_drop] at e
  exact e

theorem open_sk {fuel : Nat} {cs : List Value} {x : DataW H × List MemPlace} (h : DataW.trod enc Try.prog w base spare held fuel 27 cs = some x) :
    ∃ s : Sk, IsSk cs.toArray s ∧ s.Ok := by
  obtain ⟨xs, n, _, _, hl, hlen, hf⟩ := DataW.trod_struct Try.underlying27 h
  have hlen' : xs.length = 6 := hlen
  rw [cellsSk] at hl
  have g0 : DataW.trod enc Try.prog w base spare held n 22 ((cs.drop 0).take (Try.prog.cellsOf 22)) = xs[0]? := hf 0 _ rfl
  have g1 : DataW.trod enc Try.prog w base spare held n 23 ((cs.drop 1).take (Try.prog.cellsOf 23)) = xs[1]? := hf 1 _ rfl
  have g2 : DataW.trod enc Try.prog w base spare held n 21 ((cs.drop 2).take (Try.prog.cellsOf 21)) = xs[2]? := hf 2 _ rfl
  have g3 : DataW.trod enc Try.prog w base spare held n 21 ((cs.drop 3).take (Try.prog.cellsOf 21)) = xs[3]? := hf 3 _ rfl
  have g4 : DataW.trod enc Try.prog w base spare held n 24 ((cs.drop 4).take (Try.prog.cellsOf 24)) = xs[4]? := hf 4 _ rfl
  have g5 : DataW.trod enc Try.prog w base spare held n 25 ((cs.drop 20).take (Try.prog.cellsOf 25)) = xs[5]? := hf 5 _ rfl
  rw [cellsU16] at g0
  rw [cellsU32] at g1
  rw [cellsI32] at g2 g3
  rw [cellsRegs] at g4
  rw [cellsHist] at g5
  rw [List.getElem?_eq_getElem (by omega)] at g0 g1 g2 g3 g4 g5
  obtain ⟨c, e0, w0⟩ := cell_int (k := .u16) Try.underlying22 g0
  obtain ⟨s, e1, w1⟩ := cell_int (k := .u32) Try.underlying23 g1
  obtain ⟨l, e2, w2⟩ := cell_int (k := .i32) Try.underlying21 g2
  obtain ⟨g, e3, w3⟩ := cell_int (k := .i32) Try.underlying21 g3
  have hr := cells_bytes (o := 4) Try.underlying24 g4
  have hh := cells_bytes (o := 20) Try.underlying25 g5
  clear g0 g1 g2 g3 g4 g5 hf hlen hlen'
  have b0 := bounds_u16 w0
  have b1 := bounds_u32 w1
  have b2 := bounds_i32 w2
  have b3 := bounds_i32 w3
  refine ⟨⟨c, s, l, g, fun k => if k < 16 then intOf (cs.getD (4 + k) undef) else 0, fun k => if k < 8 then intOf (cs.getD (20 + k) undef) else 0⟩, ?_, ?_⟩
  · show cs.toArray = _
    apply Array.ext_getElem?
    intro i
    by_cases hi : i < 28
    · rw [Sk.get _ i hi]
      rw [List.getElem?_toArray]
      by_cases h0 : i = 0
      · subst h0; rw [e0]; rfl
      by_cases h1 : i = 1
      · subst h1; rw [e1]; rfl
      by_cases h2 : i = 2
      · subst h2; rw [e2]; rfl
      by_cases h3 : i = 3
      · subst h3; rw [e3]; rfl
      by_cases h4 : i < 20
      · obtain ⟨n, en, _⟩ := hr (i - 4) (by omega)
        rw [show 4 + (i - 4) = i by omega] at en
        have hx : i - 4 < 16 := by omega
        rw [en]
        simp [Sk.at, h0, h1, h2, h3, h4, hx, show 4 + (i - 4) = i by omega, List.getD, en, intOf]
      · obtain ⟨n, en, _⟩ := hh (i - 20) (by omega)
        rw [show 20 + (i - 20) = i by omega] at en
        have hx : i - 20 < 8 := by omega
        rw [en]
        simp [Sk.at, h0, h1, h2, h3, h4, hx, show 20 + (i - 20) = i by omega, List.getD, en, intOf]
    · rw [Array.getElem?_eq_none (by simp; omega), Array.getElem?_eq_none (by rw [Sk.size_cells]; omega)]
  · have rb : ∀ k, 0 ≤ (if k < 16 then intOf (cs.getD (4 + k) undef) else 0) ∧ (if k < 16 then intOf (cs.getD (4 + k) undef) else 0) ≤ 255 := fun k => by
      split
      · rename_i hk
        obtain ⟨n, en, wn⟩ := hr k hk
        have := bounds_u8 wn
        simp only [List.getD, en, Option.getD_some, intOf]; omega
      · omega
    have hb : ∀ k, 0 ≤ (if k < 8 then intOf (cs.getD (20 + k) undef) else 0) ∧ (if k < 8 then intOf (cs.getD (20 + k) undef) else 0) ≤ 255 := fun k => by
      split
      · rename_i hk
        obtain ⟨n, en, wn⟩ := hh k hk
        have := bounds_u8 wn
        simp only [List.getD, en, Option.getD_some, intOf]; omega
      · omega
    exact ⟨by simp only []; omega, by simp only []; omega, by simp only []; omega, by simp only []; omega, by simp only []; omega, by simp only []; omega, by simp only []; omega, by simp only []; omega, fun k => (rb k).1, fun k => (rb k).2, fun k => (hb k).1, fun k => (hb k).2⟩

/-- The argument, opened. -/
theorem arg_sk {r : Reach} {b0 : Nat} {v : Value} {d : DataW H} {p : List MemPlace} (hv : Value.okWide Try.prog w r b0 27 v) (h : DataW.Trod enc Try.prog w base spare held 27 v d p) :
    ∃ (A : Array Value) (s : Sk), v = .agg A ∧ IsSk A s ∧ s.Ok := by
  obtain ⟨cs, rfl, _⟩ := WideShapes.okWide_struct Try.underlying27 hv
  obtain ⟨fuel, hf⟩ := h
  obtain ⟨s, hs, ok⟩ := open_sk hf
  exact ⟨cs, s, rfl, by simpa [Value.cells] using hs, ok⟩
end
end Go.Proofs.Ytpglbakcjihohaa
