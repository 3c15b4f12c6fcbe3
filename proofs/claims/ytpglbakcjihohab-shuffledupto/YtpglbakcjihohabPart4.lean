/-
  Own texts, laid together: The program's Advance, for every leaf. The document's Send, for every node and windows. The document's Deliver, for every node and packet. A game in memory: the program's store, the document's, the packets laid by, the book; what a step leaves of it. The program's Deliver, for every node and packet. The program's Ask, for every node and windows.
-/
import Derived.Test.YtpglbakcjihohabRows
import Derived.Test.YtpglbakcjihohabPart3
set_option linter.unusedSimpArgs false
set_option linter.unusedVariables false
set_option linter.deprecated false
/-! The program's Advance, for every leaf. -/
namespace Go.Proofs.Ytpglbakcjihohab
open Go.RowKit
set_option maxRecDepth 100000

theorem Chg.trans {SR : SRT} {w w1 w2 : World} {own own1 : Ghost} {B0 bs : Nat} {t : List Int} {wid : Int} {D2 : List Nd} (s : Same w own own1) (f : Fr own isSt w w1) (h : Chg SR w1 own1 B0 bs t wid D2 w2) : Chg SR w own B0 bs t wid D2 w2 := by
  obtain ⟨own2, h1, h2, h3⟩ := h
  exact ⟨own2, h1, s.trans f.size h2, f.trans s h3⟩
theorem DI.set {D : List Nd} {M k : Nat} {d' : Nd} (h : DI D M) (hd : d'.lev.length ≤ M ∧ d'.kev.length ≤ M ∧ Good d'.items ∧ Good d'.saved) : DI (D.set k d') M := fun j d hj => by
  by_cases e : k = j
  · subst e
    rw [List.getElem?_set] at hj
    simp only [if_true] at hj
    split at hj
    · cases hj; exact hd
    · cases hj
  · rw [List.getElem?_set_ne e] at hj; exact h j d hj
def advJ (D : List Nd) (k : Nat) (d : Nd) (wid tm : Int) (j : Nat) : List Nd := D.set k { d with lmk := tm, lcl := clTo d.lcl wid tm j }
theorem clTo_zero (cl : Nat → Bool) (wid tm : Int) : clTo cl wid tm 0 = cl := by funext i; simp [clTo]
theorem clTo_end (cl : Nat → Bool) (wid tm : Int) (j : Nat) (hj : j ≤ 20) (w0 : 1 ≤ wid) (h : j = 20 ∨ tm < ((j : Int) + 1) * wid) : clTo cl wid tm j = clTo cl wid tm 20 := by
  rcases h with rfl | h
  · rfl
  · funext i
    unfold clTo
    by_cases hi : i < j
    · by_cases hc : ((i : Int) + 1) * wid ≤ tm
      · rw [if_pos ⟨hi, hc⟩, if_pos ⟨by omega, hc⟩]
      · rw [if_neg (fun h => hc h.2), if_neg (fun h => hc h.2)]
    · have : ((j : Int) + 1) * wid ≤ ((i : Int) + 1) * wid := Int.mul_le_mul_of_nonneg_right (by omega) (by omega)
      rw [if_neg (fun h => hi h.1), if_neg (fun h => by have := h.2; omega)]
theorem SRep.setMark {w : World} {own : Ghost} {B0 bs : Nat} {t : List Int} {wid : Int} {D : List Nd} {V : Nat → Sl} {A : Array Value} (h : SRep w own B0 bs t wid D V A) (k : Nat) (d : Nd) (hk8 : k < 8) (hx : D[k]? = some d) (tm : Int) (t0 : 0 ≤ tm) (t1 : tm ≤ 20000) :
    Chg SR w own B0 bs t wid (D.set k { d with lmk := tm }) (w.setCell ⟨bs, 10 + k * 2 + 1, none⟩ (.int .i64 tm)) := by
  have hkD : k < D.length := (List.getElem?_eq_some_iff.1 hx).1
  have hset : (D.set k { d with lmk := tm })[k]? = some { d with lmk := tm } := List.getElem?_set_self hkD
  have hbs := lt_of_blk h.main
  have he := h.ev k d hx
  have eV : updV V k (V k) = V := by funext r; simp only [updV]; split <;> simp_all
  refine h.gen k (by omega) (V k) (A' := A.setIfInBounds (10 + k * 2 + 1) (.int .i64 tm)) rfl rfl rfl (by simp) (fun j hj h1 _ => heap_setCell_other _ _ _ _ (by show j ≠ bs; exact h1)) (by rw [heap_setCell_same _ _ _ _ _ _ h.main]) ?_ ?_ (fun g e => .inl e) (fun r hr hne => ?_) (by simpa using h.ld) (fun j d' hj => ?_)
  · rw [eV]
    refine h.is.setMk h.T.le k (by omega) tm (MQ_live _ k _ hk8 hset) fun r hr hne => ?_
    by_cases e2 : r = 8 + k
    · subst e2; rw [MQ_kept _ k _ hset, MQ_kept D k d hx]
    · exact MQ_set D k _ r hne e2
  · rw [LQ_live t _ k _ hk8 hset]
    have := h.ow k (by omega)
    rw [LQ_live t D k d hk8 hx] at this
    exact this.chg fun j hj => heap_setCell_other _ _ _ _ (by show j ≠ bs; intro e; exact h.ne k (by omega) (by rw [hj, e]))
  · by_cases e2 : r = 8 + k
    · subst e2; rw [LQ_kept t _ k _ hset, LQ_kept t D k d hx]; rfl
    · exact LQ_set t D k _ r hne e2
  · by_cases e : k = j
    · subst e
      rw [hset] at hj; cases hj
      exact ⟨he.1, he.2.1, he.2.2.1, he.2.2.2.1, t0, t1, he.2.2.2.2.2.2⟩
    · rw [List.getElem?_set_ne e] at hj; exact h.ev j d' hj
theorem SRep.closed {w w' : World} {own : Ghost} {B0 bs : Nat} {t : List Int} {wid : Int} {D : List Nd} {V : Nat → Sl} {A : Array Value} (h : SRep w own B0 bs t wid D V A) (k : Nat) (d : Nd) (hk8 : k < 8) (hx : D[k]? = some d) (hlf : isLf t k = true) (j : Nat) (hj : j < 20) (s : Sl) (pf : PF w w' bs (10 + k * 2) A 77 (V k).val s.val)
    (ho : Own clIt w' B0 80 s.val (pin { itm k j (LQ t D k) with fin := true } (LQ t D k))) : Chg SR w own B0 bs t wid (D.set k { d with lcl := fun i => if i = j then true else d.lcl i }) w' := by
  have hkD : k < D.length := (List.getElem?_eq_some_iff.1 hx).1
  have hset : (D.set k { d with lcl := fun i => if i = j then true else d.lcl i })[k]? = some { d with lcl := fun i => if i = j then true else d.lcl i } := List.getElem?_set_self hkD
  have he := h.ev k d hx
  refine h.put k (by omega) s pf ?_ (fun r hr => ?_) (fun r hr hne => ?_) (by simpa using h.ld) (fun i d' hi => ?_)
  · rw [LQ_leaf hk8 hset hlf]
    rw [LQ_leaf hk8 hx hlf, ← known_close k d.lev d.lcl j hj] at ho
    exact ho
  · by_cases e : r = k
    · subst e; rw [MQ_live _ r _ hk8 hset, MQ_live D r d hk8 hx]
    · by_cases e2 : r = 8 + k
      · subst e2; rw [MQ_kept _ k _ hset, MQ_kept D k d hx]
      · exact MQ_set D k _ r e e2
  · by_cases e2 : r = 8 + k
    · subst e2; rw [LQ_kept t _ k _ hset, LQ_kept t D k d hx]; rfl
    · exact LQ_set t D k _ r hne e2
  · by_cases e : k = i
    · subst e
      rw [hset] at hi; cases hi
      exact he
    · rw [List.getElem?_set_ne e] at hi; exact h.ev i d' hi
set_option maxHeartbeats 4000000 in
theorem sAdvance_any (w : World) (own : Ghost) (B0 bs : Nat) (t : List Int) (wid : Int) (D : List Nd) (h : SR w own B0 bs t wid D) (hd : DI D 100000000) (hB0 : B0 ≤ w.heap.size) (n tm : Int) :
    Calls Try.prog 43 #[.pointer (some ⟨bs, 0, none⟩), .int .i64 n, .int .i64 tm] w fun e w' => e = .returned (.int .i64 (advE t wid D n tm)) ∧ Chg SR w own B0 bs t wid (advD t wid D n tm) w' := by
  obtain ⟨V, A, h⟩ := h
  have HT : Hid (PTree w bs t) := h.tree
  have HS : Hid (SRep w own B0 bs t wid D V A) := h
  have h8 := h.T.le
  have HC9 : Hid (w.cell? ⟨bs, 9, none⟩ = some (.int .i64 wid)) := h.width
  have w0 := h.wid0
  have w1' := h.wid1
  have HSAME : Hid (advE t wid D n tm ≠ 0 → Chg SR w own B0 bs t wid (advD t wid D n tm) w) := fun he => ⟨own, by unfold advD; rw [if_neg he]; exact ⟨V, A, h⟩, Same.refl _ _, Fr.refl _ _ _⟩
  by_cases h1 : wrg t n = 0
  · obtain ⟨h2, hlf⟩ := isLf_of h1
    obtain ⟨k, d, rfl, hk, hk8, hx⟩ := h.at n h2
    have hev := h.ev k d hx
    obtain ⟨lm, hlm⟩ : ∃ lm, d.lmk = lm := ⟨_, rfl⟩
    have HCM : Hid (w.cell? ⟨bs, 10 + k * 2 + 1, none⟩ = some (.int .i64 lm)) := by unfold Hid; rw [cell_of_row _ _ _ _ _ _ h.main, ← hlm, ← MQ_live D k d hk8 hx]; exact h.is.mrk k (by omega)
    obtain ⟨en, hen⟩ : ∃ en, en = 20 * wid := ⟨_, rfl⟩
    have HEN : Hid ((((19 : Nat) : Int) + 1) * wid = en) := by unfold Hid; rw [hen]; rfl
    have HENB : Hid (en = 20 * wid) := hen
    have enb : en ≤ 20000 := by omega
    have k0 : (0 : Int) ≤ (k : Int) := by omega
    have k1 : (k : Int) < 8 := by omega
    clear hen
    by_cases a0 : tm < lm
    · have HE : Hid (advE t wid D k tm = 5) := by unfold Hid advE; rw [if_pos h1, if_pos (.inl (by simp [hx, hlm]; exact a0))]
      clear h hev hlm hx
      go_enter Try.func43, Try.ntmps43
      go_wp2_with (first | (go_at_call 56; refine (leafError_any _ _ t HT.out _ h8).mono ?_; rintro e wA ⟨rfl, hwA⟩; have hwA := hwA.symm; subst hwA; rw [h1]) | (go_at_call 67; refine (windowEnd_any _ _ wid HC9.out w0 w1' 19 (by omega)).mono ?_; rintro e wA ⟨rfl, hwA⟩; have hwA := hwA.symm; subst hwA; rw [HEN.out]) | (go_at_call 57; refine (lWatermark_any _ _ _ _ HCM.out).mono ?_; rintro e wA ⟨rfl, hwA⟩; have hwA := hwA.symm; subst hwA))
      go_ret
      exact ⟨by rw [HE.out]; rfl, HSAME.out (by rw [HE.out]; decide)⟩
    · by_cases a1 : en < tm
      · have HE : Hid (advE t wid D k tm = 5) := by unfold Hid advE; rw [if_pos h1, if_pos (.inr (by have := HENB.out; omega))]
        clear h hev hlm hx
        go_enter Try.func43, Try.ntmps43
        go_wp2_with (first | (go_at_call 56; refine (leafError_any _ _ t HT.out _ h8).mono ?_; rintro e wA ⟨rfl, hwA⟩; have hwA := hwA.symm; subst hwA; rw [h1]) | (go_at_call 67; refine (windowEnd_any _ _ wid HC9.out w0 w1' 19 (by omega)).mono ?_; rintro e wA ⟨rfl, hwA⟩; have hwA := hwA.symm; subst hwA; rw [HEN.out]) | (go_at_call 57; refine (lWatermark_any _ _ _ _ HCM.out).mono ?_; rintro e wA ⟨rfl, hwA⟩; have hwA := hwA.symm; subst hwA))
        go_ret
        exact ⟨by rw [HE.out]; rfl, HSAME.out (by rw [HE.out]; decide)⟩
      · have HE : Hid (advE t wid D k tm = 0) := by
          have e : ((D[((k : Int)).toNat]?).map fun d => d.lmk).getD 0 = lm := by simp [hx, hlm]
          unfold Hid advE; rw [if_pos h1, if_neg (by rw [e]; have := HENB.out; omega)]
        have HD : Hid (advD t wid D k tm = advJ D k d wid tm 20) := by unfold Hid advD advJ; rw [if_pos HE.out]; simp [hx]
        have hlm0 : 0 ≤ lm := by rw [← hlm]; exact hev.2.2.2.2.1
        have HC0 : Hid (Chg SR w own B0 bs t wid (advJ D k d wid tm 0) (w.setCell ⟨bs, 10 + k * 2 + 1, none⟩ (.int .i64 tm))) := by
          unfold Hid advJ; rw [clTo_zero]; exact h.setMark k d hk8 hx tm (by omega) (by omega)
        have HMM : Hid (A[10 + k * 2 + 1]? = some (.int .i64 lm)) := by unfold Hid; rw [← hlm, ← MQ_live D k d hk8 hx]; exact h.is.mrk k (by omega)
        have HDJ : Hid (∀ j, DI (advJ D k d wid tm j) 100000000 ∧ (advJ D k d wid tm j)[k]? = some { d with lmk := tm, lcl := clTo d.lcl wid tm j }) := fun j => ⟨hd.set (hd k d hx), List.getElem?_set_self (List.getElem?_eq_some_iff.1 hx).1⟩
        have HLF : Hid (isLf t k = true) := hlf
        clear h hev hlm hx hlf
        go_enter Try.func43, Try.ntmps43
        go_wp2_with (first | (go_at_call 56; refine (leafError_any _ _ t HT.out _ h8).mono ?_; rintro e wA ⟨rfl, hwA⟩; have hwA := hwA.symm; subst hwA; rw [h1]) | (go_at_call 67; refine (windowEnd_any _ _ wid HC9.out w0 w1' 19 (by omega)).mono ?_; rintro e wA ⟨rfl, hwA⟩; have hwA := hwA.symm; subst hwA; rw [HEN.out]) | (go_at_call 57; refine (lWatermark_any _ _ _ _ HCM.out).mono ?_; rintro e wA ⟨rfl, hwA⟩; have hwA := hwA.symm; subst hwA) | (go_at_call 68; refine (lSetWatermark_any _ _ _ A _ lm tm HS.out.main HMM.out).mono ?_; rintro e w2 ⟨rfl, hw2⟩; rw [← hw2] at HC0; clear hw2))
        go_loopw [9] (fun i wr => ∃ j : Nat, j ≤ 20 ∧ i = .int .i64 j ∧ Chg SR w own B0 bs t wid (advJ D k d wid tm j) wr) (fun i _ => 20 - (intOf i).toNat)
        case atStart => exact ⟨0, by omega, rfl, HC0.out⟩
        case round =>
          clear HC0 HC9 HCM HMM HT
          obtain ⟨j, hj, rfl, ch⟩ := hrel
          obtain ⟨own1, ⟨V1, A1, S1⟩, sm1, fr1⟩ := ch
          have HCH : Hid (Chg SR w own B0 bs t wid (advJ D k d wid tm j) wr) := ⟨own1, ⟨V1, A1, S1⟩, sm1, fr1⟩
          have HS1 : Hid (SRep wr own1 B0 bs t wid (advJ D k d wid tm j) V1 A1) := S1
          have HSF : Hid (Same w own own1 ∧ Fr own isSt w wr) := ⟨sm1, fr1⟩
          clear S1 sm1 fr1
          by_cases hlt : j < 20
          · obtain ⟨ej, hej⟩ : ∃ ej, ej = ((j : Int) + 1) * wid := ⟨_, rfl⟩
            have HEJ : Hid (((j : Int) + 1) * wid = ej) := hej.symm
            clear hej
            by_cases hin : ej ≤ tm
            · have hlen : (LQ t (advJ D k d wid tm j) k).length ≤ 1000 := by have := (HS1.out.good (HDJ.out j).1 k).len; omega
              go_wp2_with (go_at_call 67; refine (windowEnd_any _ _ wid HS1.out.width w0 w1' j hlt).mono ?_; rintro e wA ⟨rfl, hwA⟩; have hwA := hwA.symm; subst hwA; rw [HEJ.out])
              refine (lClose_any wr B0 bs (10 + k * 2) A1 _ (V1 k).p (V1 k).n (V1 k).c (MQ (advJ D k d wid tm j) k) (LQ t (advJ D k d wid tm j) k) k j HS1.out.main (HS1.out.is.sl k (by omega)) (HS1.out.is.mrk k (by omega)) (HS1.out.ow k (by omega)) (HS1.out.ne k (by omega)) (Nat.le_trans hB0 HSF.out.2.size) hlen).mono ?_
              rintro e w6 ⟨rfl, s6, ho6, pf6⟩
              have Z : Hid (Chg SR w own B0 bs t wid (advJ D k d wid tm (j + 1)) w6) := by
                unfold Hid
                refine Chg.trans HSF.out.1 HSF.out.2 ?_
                have z := HS1.out.closed k _ hk8 (HDJ.out j).2 HLF.out j hlt s6 pf6 ho6
                have e : (advJ D k d wid tm j).set k { d with lmk := tm, lcl := fun i => if i = j then true else clTo d.lcl wid tm j i } = advJ D k d wid tm (j + 1) := by
                  unfold advJ; rw [List.set_set, clTo_yes d.lcl wid tm j (by rw [HEJ.out]; exact hin)]
                rw [← e]; exact z
              clear ho6 pf6
              go_wp2
              go_roundw
              case rel => exact ⟨j + 1, by omega, by go_num, Z.out⟩
              case measure => simp [intOf]; omega
            · have HEND : Hid (advJ D k d wid tm j = advJ D k d wid tm 20) := by unfold Hid advJ; rw [clTo_end d.lcl wid tm j hj w0 (.inr (by rw [HEJ.out]; omega))]
              go_wp2_with (go_at_call 67; refine (windowEnd_any _ _ wid HS1.out.width w0 w1' j hlt).mono ?_; rintro e wA ⟨rfl, hwA⟩; have hwA := hwA.symm; subst hwA; rw [HEJ.out])
              go_ret
              exact ⟨by rw [HE.out]; rfl, by rw [HD.out, ← HEND.out]; exact HCH.out⟩
          · obtain rfl : j = 20 := by omega
            go_wp2
            go_ret
            exact ⟨by rw [HE.out]; rfl, by rw [HD.out]; exact HCH.out⟩
  · have HE : Hid (advE t wid D n tm = wrg t n) := by unfold Hid advE; rw [if_neg h1]
    clear h
    have hb : (wrg t n == 0) = false := by simpa using h1
    have hb2 : (wrg t n != 0) = true := by simpa using h1
    go_enter Try.func43, Try.ntmps43
    go_wp2_with (go_at_call 56; refine (leafError_any _ _ t HT.out _ h8).mono ?_; rintro e wA ⟨rfl, rfl⟩)
    go_ret
    exact ⟨by rw [HE.out]; rfl, HSAME.out (by rw [HE.out]; exact h1)⟩
end Go.Proofs.Ytpglbakcjihohab

/-! The document's Send, for every node and windows. -/
namespace Go.Proofs.Ytpglbakcjihohab
open Go.RowKit
set_option maxRecDepth 100000

structure SW (w wr : World) (g B1 : Nat) (n : Int) (v : Value) (p : Option Addr) (L o : List It) : Prop where
  below : Below w.heap.size w wr
  r : wr.heap[w.heap.size]? = some (.cells #[.int .i64 0, .slice none 0 0] 34)
  m : wr.heap[g]? = some (.cells #[.int .i64 n, v] 34)
  rows : RowsAt clIt wr p L
  own : Own clIt wr B1 80 v o
  low : B1 ≤ wr.heap.size
  hp : L = [] ∨ ∀ b off, p = some ⟨b, off, none⟩ → b < B1 ∧ b ≠ g
  hg : g < B1
  hw : w.heap.size < g
theorem SW.step {w wr wA w2 : World} {g B1 : Nat} {n : Int} {v v' : Value} {p : Option Addr} {L o o' : List It} (h : SW w wr g B1 n v p L o) (hA : Below wr.heap.size wr wA) (g1 : wA.grownBy w2 v.ownBlock) (o1 : Own clIt w2 B1 80 v' o') : SW w (w2.setCell ⟨g, 1, none⟩ v') g B1 n v' p L o' := by
  have hsz : (w2.setCell ⟨g, 1, none⟩ v').heap.size = w2.heap.size := by simp
  have blk : ∀ j, j < B1 → w2.heap[j]? = wr.heap[j]? := fun j hj => by
    rw [g1.block j (by have := h.low; have := hA.size; omega) (fun e => by have := (h.own.lt j e.symm).1; omega)]
    exact hA.block j (by have := h.low; omega)
  have blk2 : ∀ j, j < B1 → j ≠ g → (w2.setCell ⟨g, 1, none⟩ v').heap[j]? = wr.heap[j]? := fun j hj hne => by
    rw [heap_setCell_other _ _ _ _ (by show j ≠ g; exact hne)]; exact blk j hj
  have hs1 := h.low
  have hs2 := hA.size
  have hs3 := g1.size
  have hg := h.hg
  have hw := h.hw
  refine ⟨⟨?_, ?_, ?_, ?_, fun j hj => ?_⟩, ?_, ?_, ?_, ?_, by omega, h.hp, h.hg, h.hw⟩
  · exact (g1.os.trans hA.os).trans h.below.os
  · exact (g1.tape.trans hA.tape).trans h.below.tape
  · exact (g1.output.trans hA.output).trans h.below.output
  · omega
  · rw [blk2 j (by omega) (by omega)]; exact h.below.block j hj
  · rw [blk2 _ (by omega) (by omega)]; exact h.r
  · have := blk g hg
    rw [h.m] at this
    rw [heap_setCell_same _ _ _ _ _ _ this]
    rfl
  · rcases h.hp with e | hp
    · exact .inl e
    · exact h.rows.chg (by omega) fun b off e => blk2 b (hp b off e).1 (hp b off e).2
  · exact o1.chg fun j hj => heap_setCell_other _ _ _ _ (by show j ≠ g; have := (o1.lt j hj).1; omega)
end Go.Proofs.Ytpglbakcjihohab

/-! The document's Deliver, for every node and packet. -/
namespace Go.Proofs.Ytpglbakcjihohab
open Go.RowKit
set_option maxRecDepth 100000

end Go.Proofs.Ytpglbakcjihohab

/-! A game in memory: the program's store, the document's, the packets laid by, the book; what a step leaves of it. -/
namespace Go.Proofs.Ytpglbakcjihohab
open Go.RowKit
set_option maxRecDepth 100000

/-! ### Answers compared -/
theorem cellsOf_an : Try.prog.cellsOf 61 = 30 := by kernel_rfl
theorem keys_an {A : Array Value} {x : An} (hA : IsAn A x) (ok : x.Ok) : ∃ la, Try.prog.keyLits 4 61 A.toList = some la := by
  have hl : A.toList.length = 30 := by simpa using hA.size
  obtain ⟨a0, a1⟩ := ok.closed
  have e4 : (A.toList.drop 0).take 28 = x.sk.cells.toList := by
    rw [show A.toList = x.cells from hA, An.cells]
    rw [List.drop_zero, List.take_append_of_le_length (by simp [Sk.size_cells]), List.take_of_length_le (by simp [Sk.size_cells])]
  obtain ⟨y0, k0⟩ := keys_sk (A := x.sk.cells) (s := x.sk) rfl ok.sk
  rw [← e4] at k0
  obtain ⟨y1, k1⟩ := keys_bool (cs := A.toList) (b := x.sealed) (i := 28) 2 (by simpa using hA.get28)
  obtain ⟨y2, k2⟩ := keys_int (cs := A.toList) (n := x.closed) (k := .i64) (i := 29) 2 Try.underlying3 (by simpa using hA.get29) (by simp [Lit.wf, IntKind.min, IntKind.max, IntKind.signed, IntKind.bits]; omega)
  refine ⟨[y0, y1, y2].flatten, ?_⟩
  rw [show (4 : Nat) = 3 + 1 from rfl]
  unfold Program.keyLits
  rw [Try.underlying61]
  simp only [hl, cellsOf_an, cellsOf_int, cellsOf_bool, cellsOf_sk, List.mapM_cons, List.mapM_nil, k0, k1, k2]
  simp
theorem eqAt_an : EqAt Try.prog 10000 61 := run_equalIn_deep 9996 4 61 (by kernel_rfl)
theorem eq_an {A : Array Value} {x : An} (hA : IsAn A x) (ok : x.Ok) (w : World) : (Op.equalIn 10000 61 (.agg A) (.agg A)).run Try.prog w = .ok true w := by
  obtain ⟨la, ha⟩ := keys_an hA ok
  have hf : (Value.agg A).formed Try.prog 61 = true := by
    simp only [Value.formed, Try.underlying61, hA.size, cellsOf_an]; rfl
  obtain ⟨r, hr, hi⟩ := eqAt_an w 4 4 (.agg A) (.agg A) la la hf hf ha ha
  rw [hr, hi.2 rfl]
theorem eqlop_an {A : Array Value} {x : An} (hA : IsAn A x) (ok : x.Ok) (w : World) : (binOp .eql 61 (.agg A) (.agg A)).run Try.prog w = .ok (.bool true) w := by
  rw [run_eql_struct, eq_an hA ok]; rfl
theorem guard_an : Try.prog.eqGuardType Try.prog.depth 61 = false := by kernel_rfl
section
variable {ops : Array Oper} {rest : List Oper} {o : Oper} {a : Act} {w : World} {Q : Exit → Act → World → Prop}
theorem eql_an (hw : Region.wanted o (yielded ops a.tmps) = true) (x y : Operand) (t' : TypeId) (ho : o.op = .binOp .eql 61 x y t') (A : Array Value) (s : An) (hA : IsAn A s) (ok : s.Ok) (hx : a.eval x = .agg A) (hy : a.eval y = .agg A)
    (h : wpList Try.prog ops Q rest (a.put o.dst (.bool true)) w) : wpList Try.prog ops Q (o :: rest) a w :=
  wpList_step fun _ hK => by
    rw [if_pos hw]
    unfold Oper.wp execOp
    simp only [ho, hx, hy, Sem.run_bind, run_eqGuard_agg w .eql _ x y A A guard_an, Result.andThen_ok, eqlop_an hA ok, Sem.run_pure]
    exact hK _ _ h
end
theorem IsAn.eq {A B : Array Value} {x : An} (h : IsAn A x) (k : IsAn B x) : A = B := by
  have : A.toList = B.toList := by rw [show A.toList = x.cells from h, show B.toList = x.cells from k]
  exact Array.toList_inj.1 this
theorem askAn_ok {t : List Int} {l : List It} (h : AllOkI l) (hl : l.length ≤ 160) (n low high : Int) : (askAn t l n low high).Ok := by
  unfold askAn
  split
  · refine ⟨skAll_ok fun x hx => h.mem (List.mem_filter.1 hx).1, ?_⟩
    have h1 := cnt_le (l.filter (inRg low high))
    have h2 := List.length_filter_le (inRg low high) l
    constructor
    · show (-9223372036854775808 : Int) ≤ ((cnt (l.filter (inRg low high)) : Nat) : Int); omega
    · show ((cnt (l.filter (inRg low high)) : Nat) : Int) ≤ 9223372036854775807; omega
  · exact An.zero_ok

/-! ### A step of a script -/
structure Stp where
  kind : Int
  a : Int
  b : Int
  c : Int
  key : ByteArray
  v : Int
  fr : Int
  s : Sl
def Stp.arr (x : Stp) : Array Value := #[.int .i64 x.kind, .int .i64 x.a, .int .i64 x.b, .int .i64 x.c, .string x.key, .int .i32 x.v, .int .i64 x.fr, .slice x.s.p x.s.n x.s.c]
abbrev clStp : Cl Stp := ⟨fun x => [.int .i64 x.kind, .int .i64 x.a, .int .i64 x.b, .int .i64 x.c, .string x.key, .int .i32 x.v, .int .i64 x.fr, .slice x.s.p x.s.n x.s.c], 8, by decide, fun _ => rfl, fun _ v hv => by
  simp only [List.mem_cons, List.not_mem_nil, or_false] at hv
  rcases hv with rfl | rfl | rfl | rfl | rfl | rfl | rfl | rfl <;> rfl⟩
theorem Stp.clsize : clStp.size = 8 := rfl
/-- A step's numbers fit; its packet's items lie in memory, in a block that the game does not touch. -/
structure StpOk (w : World) (own : Ghost) (x : Stp) : Prop where
  kind : fitsI x.kind
  a : fitsI x.a
  b : fitsI x.b
  c : fitsI x.c
  key : x.key.size ≤ maxLen
  v0 : -2147483648 ≤ x.v
  v1 : x.v ≤ 2147483647
  fr : fitsI x.fr
  small : x.s.n ≤ 100000000
  pk : ∃ l : List It, l.length = x.s.n ∧ RowsAt clIt w x.s.p l ∧ AllOkI l ∧ (l = [] ∨ ∀ b off, x.s.p = some ⟨b, off, none⟩ → own b = .arg)

/-! ### The game -/
/-- A packet that was laid by. -/
def PkIn (w : World) (own : Ghost) (x : Pk) : Prop := fitsI x.fr ∧ ∃ l : List It, l.length = x.s.n ∧ RowsAt clIt w x.s.p l ∧ AllOkI l ∧ x.s.n ≤ 160 ∧ ∀ b off, x.s.p = some ⟨b, off, none⟩ → b < w.heap.size ∧ own b = .ldI
theorem PkIn.chg {w w' : World} {own own' : Ghost} {x : Pk} (h : PkIn w own x) {S : Tag → Prop} (f : Fr own S w w') (s : Same w own own') (h1 : ¬ S .ldI) : PkIn w' own' x := by
  obtain ⟨h0, l, h2, h3, h4, h5, h6⟩ := h
  refine ⟨h0, l, h2, h3.chg f.size fun b off e => ?_, h4, h5, fun b off e => ?_⟩
  · obtain ⟨hb, ho⟩ := h6 b off e
    exact f.block b hb (by rw [ho]; simp) (by rw [ho]; exact h1)
  · obtain ⟨hb, ho⟩ := h6 b off e
    exact ⟨Nat.lt_of_lt_of_le hb f.size, by rw [s b hb (by rw [ho]; simp)]; exact ho⟩
def notArg (t : Tag) : Prop := t ≠ .arg
theorem DI.mono {D : List Nd} {m m' : Nat} (h : DI D m) (hm : m ≤ m') : DI D m' := fun k d hk => by have := h k d hk; exact ⟨by omega, by omega, this.2.2⟩
theorem PR.below {SR : SRT} (R : PR SR) {w w' : World} {own : Ghost} {B0 bs : Nat} {t : List Int} {wid : Int} {D : List Nd} (h : SR w own B0 bs t wid D) (hb : Below w.heap.size w w') : SR w' own B0 bs t wid D :=
  R.chg h (Fr.of_below (S := fun _ => False) hb) (Same.refl _ _) fun _ h => h
/-- All that is not there yet is nobody's. -/
def cutO (w : World) (own : Ghost) : Ghost := fun k => if k < w.heap.size then own k else .free
theorem cut_same (w : World) (own : Ghost) : Same w own (cutO w own) := fun k hk _ => if_pos hk
theorem cut_free (w : World) (own : Ghost) {v : Value} (h : ∀ k, v.ownBlock = some k → w.heap.size ≤ k) : TgV (cutO w own) v .free := fun k hk => if_neg (by have := h k hk; omega)
theorem below_drew {w : World} : Below w.heap.size w w.drew := ⟨rfl, rfl, rfl, Nat.le_refl _, fun _ _ => rfl⟩
theorem cut_at (w : World) (own : Ghost) (k : Nat) (h : w.heap.size ≤ k) : cutO w own k = .free := if_neg (by omega)
theorem DI.lev {D : List Nd} {m : Nat} (h : DI D m) (hm : m ≤ 100000000) : ∀ (k : Nat) (d : Nd), D[k]? = some d → d.lev.length ≤ 1000000000 := fun k d hd => by have := (h k d hd).1; omega
theorem DI.kev {D : List Nd} {m : Nat} (h : DI D m) (hm : m ≤ 100000000) : ∀ (k : Nat) (d : Nd), D[k]? = some d → d.kev.length ≤ 1000000000 := fun k d hd => by have := (h k d hd).2.1; omega
end Go.Proofs.Ytpglbakcjihohab

/-! The program's Deliver, for every node and packet. -/
namespace Go.Proofs.Ytpglbakcjihohab
open Go.RowKit
set_option maxRecDepth 100000

theorem PTree.below {w w' : World} {bs : Nat} {t : List Int} (h : PTree w bs t) (hb : Below w.heap.size w w') : PTree w' bs t := ⟨cell_keep hb h.len, fun k hk => cell_keep hb (h.up k hk)⟩
def isPar (t : List Int) (n fr : Int) : Bool := decide (fr ≠ 0) && isNd t fr && decide (t.getD fr.toNat (-1) = n)
set_option maxHeartbeats 1000000 in
theorem sIsParent_any (w : World) (bs : Nat) (t : List Int) (h : PTree w bs t) (n fr : Int) (hN : t.length ≤ 8) :
    Calls Try.prog 48 #[.pointer (some ⟨bs, 0, none⟩), .int .i64 n, .int .i64 fr] w fun e w' => e = .returned (.bool (isPar t n fr)) ∧ w' = w := by
  have HH : Hid (PTree w bs t) := h
  obtain ⟨_, hr⟩ := h
  by_cases h0 : fr = 0
  · subst h0
    have HE : Hid (isPar t n 0 = false) := by unfold Hid isPar; simp
    clear hr
    go_enter Try.func48, Try.ntmps48
    go_wp2
    go_ret
    exact ⟨by rw [HE.out]; rfl, rfl⟩
  · have hb0 : (fr != 0) = true := by simpa using h0
    by_cases h1 : isNd t fr = true
    · have h1' := h1
      simp only [isNd, decide_eq_true_eq] at h1'
      obtain ⟨k, rfl⟩ : ∃ k : Nat, fr = k := ⟨fr.toNat, by omega⟩
      have d1 := hr k (by omega)
      obtain ⟨x, hx⟩ : ∃ x, x = t.getD k (-1) := ⟨_, rfl⟩
      rw [← hx] at d1
      have HX : Hid (t.getD ((k : Int)).toNat (-1) = x) := by unfold Hid; rw [hx]; simp
      have k0 : (0 : Int) ≤ (k : Int) := by omega
      have k1 : (k : Int) < 8 := by omega
      clear hx hr
      by_cases h2 : x = n
      · subst h2
        have HE : Hid (isPar t x k = true) := by unfold Hid isPar; rw [h1, HX.out]; simp; omega
        clear h1'
        go_enter Try.func48, Try.ntmps48
        go_wp2_with (go_at_call 47; refine (sHas_any _ _ t HH.out _).mono ?_; rintro e w1 ⟨rfl, rfl⟩; rw [h1])
        go_ret
        exact ⟨by rw [HE.out]; rfl, rfl⟩
      · have HE : Hid (isPar t n k = false) := by unfold Hid isPar; rw [h1, HX.out]; simp [h2]
        have hb2 : (x == n) = false := by simpa using h2
        clear h1'
        go_enter Try.func48, Try.ntmps48
        go_wp2_with (go_at_call 47; refine (sHas_any _ _ t HH.out _).mono ?_; rintro e w1 ⟨rfl, rfl⟩; rw [h1])
        go_ret
        exact ⟨by rw [HE.out]; rfl, rfl⟩
    · have h1' : isNd t fr = false := by simpa using h1
      have HE : Hid (isPar t n fr = false) := by unfold Hid isPar; rw [h1']; simp
      clear hr
      go_enter Try.func48, Try.ntmps48
      go_wp2_with (go_at_call 47; refine (sHas_any _ _ t HH.out _).mono ?_; rintro e w1 ⟨rfl, rfl⟩; rw [h1'])
      go_ret
      exact ⟨by rw [HE.out]; rfl, rfl⟩
theorem isPar_fair {t : List Int} (hT : Tree t) {n fr : Int} (hn : 0 ≤ n) : isPar t n fr = true ↔ isNd t fr = true ∧ t.getD fr.toNat 0 = n := by
  unfold isPar
  simp only [Bool.and_eq_true, decide_eq_true_eq]
  constructor
  · rintro ⟨⟨h0, h1⟩, h2⟩
    refine ⟨h1, ?_⟩
    simp only [isNd, decide_eq_true_eq] at h1
    have hk : fr.toNat < t.length := by omega
    rw [← h2]
    simp [List.getD, List.getElem?_eq_getElem hk]
  · rintro ⟨h1, h2⟩
    have h1' := h1
    simp only [isNd, decide_eq_true_eq] at h1'
    have hk : fr.toNat < t.length := by omega
    refine ⟨⟨fun e => ?_, h1⟩, ?_⟩
    · subst e
      have := hT.root
      rw [show ((0 : Int)).toNat = 0 from rfl] at h2
      omega
    · rw [← h2]
      simp [List.getD, List.getElem?_eq_getElem hk]
set_option maxHeartbeats 4000000 in
theorem mayHave_any (w : World) (bs : Nat) (t : List Int) (h : PTree w bs t) (hT : Tree t) (fr : Int) (x : It) (X : Array Value) (hX : IsIt X x) :
    Calls Try.prog 49 #[.pointer (some ⟨bs, 0, none⟩), .int .i64 fr, .agg X] w fun e w' => e = .returned (.bool (okIt t fr x)) ∧ Below w.heap.size w w' := by
  have HT : Hid (Tree t) := hT
  have h8 := hT.le
  obtain ⟨bx, hbx⟩ : ∃ bx, bx = w.heap.size := ⟨_, rfl⟩
  obtain ⟨w1, hw1⟩ : ∃ w1, w1 = w.alloc (.cells X 80) := ⟨_, rfl⟩
  have HB1 : Hid (Below w.heap.size w w1) := by unfold Hid; rw [hw1]; exact below_alloc _ _
  have HP1 : Hid (PTree w1 bs t) := h.below HB1.out
  have G1 : w1.heap[bx]? = some (.cells X 80) := by rw [hw1, hbx]; exact heap_alloc_new _ _
  have c0 : w1.cell? ⟨bx, 0, none⟩ = some (.int .i64 x.leaf) := by rw [cell_of_row _ _ _ _ _ _ G1]; exact hX.get0
  have c1 : w1.cell? ⟨bx, 1, none⟩ = some (.int .i64 x.win) := by rw [cell_of_row _ _ _ _ _ _ G1]; exact hX.get1
  have c2 : w1.cell? ⟨bx, 2, none⟩ = some (.int .i64 x.ver) := by rw [cell_of_row _ _ _ _ _ _ G1]; exact hX.get2
  obtain ⟨xl, xw, xv, xf, xs⟩ := x
  replace c0 : w1.cell? ⟨bx, 0, none⟩ = some (.int .i64 xl) := c0
  replace c1 : w1.cell? ⟨bx, 1, none⟩ = some (.int .i64 xw) := c1
  replace c2 : w1.cell? ⟨bx, 2, none⟩ = some (.int .i64 xv) := c2
  obtain ⟨lv, hlv⟩ : ∃ lv, sLf t xl = lv := ⟨_, rfl⟩
  have HLV : Hid (sLf t xl = lv) := hlv
  have HOK : Hid (okIt t fr ⟨xl, xw, xv, xf, xs⟩ = (sLf t xl && under t xl fr && (decide (0 ≤ xv) && isRg xw xw))) := by
    unfold Hid okIt sLf isRg
    simp only []
    cases isNd t xl <;> cases isLf t xl <;> cases under t xl fr <;> first | (simp; done) | (rw [Bool.eq_iff_iff]; simp; omega)
  clear h hT G1 hX
  cases lv with
  | false =>
    have HE : Hid (okIt t fr ⟨xl, xw, xv, xf, xs⟩ = false) := by unfold Hid; rw [HOK.out, hlv]; rfl
    clear hlv HOK
    go_enter Try.func49, Try.ntmps49
    go_upto_region 1 with fail
    rw [← hw1, ← hbx]
    clear hw1 hbx
    have hT0 : (fun w' : World => w'.cell? ⟨bx, 0, none⟩ = some (.int .i64 xl)) w1.drew := c0
    refine wp_region_held (S := fun w' : World => w'.cell? ⟨bx, 0, none⟩ = some (.int .i64 xl)) mixed ?_
    refine wpAnyH_take (i := 0) (v := (.pointer (some ⟨bs, 0, none⟩))) rfl (by kernel_rfl) (by kernel_rfl) (by kernel_rfl) (fun _ _ _ h => h) (Or.inl ⟨by rfl, fun wx hx => by go_simp⟩) hT0 ?_
    try dsimp only
    try simp only [Act.put, List.getElem_toArray, List.getElem_cons_succ, List.getElem_cons_zero, List.setIfInBounds_toArray, List.set_cons_zero, List.set_cons_succ]
    refine wpAnyH_take (i := 1) (v := (.pointer (some ⟨bs, 0, none⟩))) rfl (by kernel_rfl) (by kernel_rfl) (by kernel_rfl) (fun _ _ _ h => h) (Or.inl ⟨by rfl, fun wx hx => by go_simp⟩) hT0 ?_
    try dsimp only
    try simp only [Act.put, List.getElem_toArray, List.getElem_cons_succ, List.getElem_cons_zero, List.setIfInBounds_toArray, List.set_cons_zero, List.set_cons_succ]
    refine wpAnyH_take (i := 2) (v := (.pointer (some ⟨bs, 0, none⟩))) rfl (by kernel_rfl) (by kernel_rfl) (by kernel_rfl) (fun _ _ _ h => h) (Or.inl ⟨by rfl, fun wx hx => by go_simp⟩) hT0 ?_
    try dsimp only
    try simp only [Act.put, List.getElem_toArray, List.getElem_cons_succ, List.getElem_cons_zero, List.setIfInBounds_toArray, List.set_cons_zero, List.set_cons_succ]
    refine wpAnyH_take (i := 3) (v := (.pointer (some ⟨bx, 0, none⟩))) rfl (by kernel_rfl) (by kernel_rfl) (by kernel_rfl) (fun _ _ _ h => h) (Or.inl ⟨by rfl, fun wx hx => by go_simp⟩) hT0 ?_
    try dsimp only
    try simp only [Act.put, List.getElem_toArray, List.getElem_cons_succ, List.getElem_cons_zero, List.setIfInBounds_toArray, List.set_cons_zero, List.set_cons_succ]
    refine wpAnyH_take (i := 4) (v := (.int .i64 xl)) rfl (by kernel_rfl) (by kernel_rfl) (by kernel_rfl) (fun _ _ _ h => h) (Or.inl ⟨by rfl, fun wx hx => by have hx1 := hx; go_simp⟩) hT0 ?_
    try dsimp only
    try simp only [Act.put, List.getElem_toArray, List.getElem_cons_succ, List.getElem_cons_zero, List.setIfInBounds_toArray, List.set_cons_zero, List.set_cons_succ]
    refine wpAnyH_all (rs := [5]) (by kernel_rfl) (by simp) ?_
    intro jj hjj
    simp only [List.mem_cons, List.not_mem_nil, or_false] at hjj
    subst hjj
    refine wpOp_of_wp rfl rfl ?_
    go_simp
    refine (sIsLeaf_any w1.drew bs t (HP1.out.below below_drew) xl h8).mono ?_
    rintro e w2 ⟨rfl, hw2⟩
    subst hw2
    rw [HLV.out]
    refine ⟨hT0, ?_⟩
    try dsimp only
    try simp only [Act.put, List.getElem_toArray, List.getElem_cons_succ, List.getElem_cons_zero, List.setIfInBounds_toArray, List.set_cons_zero, List.set_cons_succ]
    refine wpAnyH_take (i := 6) (v := (.bool true)) rfl (by kernel_rfl) (by kernel_rfl) (by kernel_rfl) (fun _ _ _ h => h) (Or.inl ⟨by rfl, fun wx hx => by go_simp⟩) hT0 ?_
    try dsimp only
    try simp only [Act.put, List.getElem_toArray, List.getElem_cons_succ, List.getElem_cons_zero, List.setIfInBounds_toArray, List.set_cons_zero, List.set_cons_succ]
    refine wpAnyH_done (by kernel_rfl) ?_ _
    clear hT0
    go_wp2
    go_ret
    exact ⟨by rw [HE.out]; rfl, bnext HB1.out below_drew⟩
  | true =>
    have hnd : isNd t xl = true := by unfold sLf at hlv; simp only [Bool.and_eq_true] at hlv; exact hlv.1
    have hxl : xl < t.length := by simp only [isNd, decide_eq_true_eq] at hnd; omega
    obtain ⟨uv, huv⟩ : ∃ uv, under t xl fr = uv := ⟨_, rfl⟩
    have HUV : Hid (under t xl fr = uv) := huv
    rw [hlv, huv] at HOK
    have HXL : Hid (xl < t.length) := hxl
    clear hlv huv hnd hxl
    go_enter Try.func49, Try.ntmps49
    go_upto_region 1 with fail
    rw [← hw1, ← hbx]
    clear hw1 hbx
    have hT0 : (fun w' : World => w'.cell? ⟨bx, 0, none⟩ = some (.int .i64 xl)) w1.drew := c0
    refine wp_region_held (S := fun w' : World => w'.cell? ⟨bx, 0, none⟩ = some (.int .i64 xl)) mixed ?_
    refine wpAnyH_take (i := 0) (v := (.pointer (some ⟨bs, 0, none⟩))) rfl (by kernel_rfl) (by kernel_rfl) (by kernel_rfl) (fun _ _ _ h => h) (Or.inl ⟨by rfl, fun wx hx => by go_simp⟩) hT0 ?_
    try dsimp only
    try simp only [Act.put, List.getElem_toArray, List.getElem_cons_succ, List.getElem_cons_zero, List.setIfInBounds_toArray, List.set_cons_zero, List.set_cons_succ]
    refine wpAnyH_take (i := 1) (v := (.pointer (some ⟨bs, 0, none⟩))) rfl (by kernel_rfl) (by kernel_rfl) (by kernel_rfl) (fun _ _ _ h => h) (Or.inl ⟨by rfl, fun wx hx => by go_simp⟩) hT0 ?_
    try dsimp only
    try simp only [Act.put, List.getElem_toArray, List.getElem_cons_succ, List.getElem_cons_zero, List.setIfInBounds_toArray, List.set_cons_zero, List.set_cons_succ]
    refine wpAnyH_take (i := 2) (v := (.pointer (some ⟨bs, 0, none⟩))) rfl (by kernel_rfl) (by kernel_rfl) (by kernel_rfl) (fun _ _ _ h => h) (Or.inl ⟨by rfl, fun wx hx => by go_simp⟩) hT0 ?_
    try dsimp only
    try simp only [Act.put, List.getElem_toArray, List.getElem_cons_succ, List.getElem_cons_zero, List.setIfInBounds_toArray, List.set_cons_zero, List.set_cons_succ]
    refine wpAnyH_take (i := 3) (v := (.pointer (some ⟨bx, 0, none⟩))) rfl (by kernel_rfl) (by kernel_rfl) (by kernel_rfl) (fun _ _ _ h => h) (Or.inl ⟨by rfl, fun wx hx => by go_simp⟩) hT0 ?_
    try dsimp only
    try simp only [Act.put, List.getElem_toArray, List.getElem_cons_succ, List.getElem_cons_zero, List.setIfInBounds_toArray, List.set_cons_zero, List.set_cons_succ]
    refine wpAnyH_take (i := 4) (v := (.int .i64 xl)) rfl (by kernel_rfl) (by kernel_rfl) (by kernel_rfl) (fun _ _ _ h => h) (Or.inl ⟨by rfl, fun wx hx => by have hx1 := hx; go_simp⟩) hT0 ?_
    try dsimp only
    try simp only [Act.put, List.getElem_toArray, List.getElem_cons_succ, List.getElem_cons_zero, List.setIfInBounds_toArray, List.set_cons_zero, List.set_cons_succ]
    refine wpAnyH_all (rs := [5]) (by kernel_rfl) (by simp) ?_
    intro jj hjj
    simp only [List.mem_cons, List.not_mem_nil, or_false] at hjj
    subst hjj
    refine wpOp_of_wp rfl rfl ?_
    go_simp
    refine (sIsLeaf_any w1.drew bs t (HP1.out.below below_drew) xl h8).mono ?_
    rintro e w2 ⟨rfl, hw2⟩
    subst hw2
    rw [HLV.out]
    refine ⟨hT0, ?_⟩
    try dsimp only
    try simp only [Act.put, List.getElem_toArray, List.getElem_cons_succ, List.getElem_cons_zero, List.setIfInBounds_toArray, List.set_cons_zero, List.set_cons_succ]
    refine wpAnyH_take (i := 6) (v := (.bool false)) rfl (by kernel_rfl) (by kernel_rfl) (by kernel_rfl) (fun _ _ _ h => h) (Or.inl ⟨by rfl, fun wx hx => by go_simp⟩) hT0 ?_
    try dsimp only
    try simp only [Act.put, List.getElem_toArray, List.getElem_cons_succ, List.getElem_cons_zero, List.setIfInBounds_toArray, List.set_cons_zero, List.set_cons_succ]
    refine wpAnyH_done (by kernel_rfl) ?_ _
    clear hT0
    obtain ⟨w2, hw2⟩ : ∃ w2, w2 = w1.drew := ⟨_, rfl⟩
    have HB2 : Hid (Below w1.heap.size w1 w2) := by unfold Hid; rw [hw2]; exact below_drew
    rw [← hw2]
    clear hw2
    have d0 : w2.cell? ⟨bx, 0, none⟩ = some (.int .i64 xl) := cell_keep HB2.out c0
    have d1 : w2.cell? ⟨bx, 1, none⟩ = some (.int .i64 xw) := cell_keep HB2.out c1
    have d2 : w2.cell? ⟨bx, 2, none⟩ = some (.int .i64 xv) := cell_keep HB2.out c2
    have HP2 : Hid (PTree w2 bs t) := HP1.out.below HB2.out
    clear c0 c1 c2
    go_upto_region 3 with fail
    have hT0 : (fun w' : World => w'.cell? ⟨bx, 0, none⟩ = some (.int .i64 xl)) w2.drew := d0
    refine wp_region_held (S := fun w' : World => w'.cell? ⟨bx, 0, none⟩ = some (.int .i64 xl)) mixed ?_
    refine wpAnyH_take (i := 0) (v := (.pointer (some ⟨bs, 0, none⟩))) rfl (by kernel_rfl) (by kernel_rfl) (by kernel_rfl) (fun _ _ _ h => h) (Or.inl ⟨by rfl, fun wx hx => by go_simp⟩) hT0 ?_
    try dsimp only
    try simp only [Act.put, List.getElem_toArray, List.getElem_cons_succ, List.getElem_cons_zero, List.setIfInBounds_toArray, List.set_cons_zero, List.set_cons_succ]
    refine wpAnyH_take (i := 1) (v := (.pointer (some ⟨bs, 0, none⟩))) rfl (by kernel_rfl) (by kernel_rfl) (by kernel_rfl) (fun _ _ _ h => h) (Or.inl ⟨by rfl, fun wx hx => by go_simp⟩) hT0 ?_
    try dsimp only
    try simp only [Act.put, List.getElem_toArray, List.getElem_cons_succ, List.getElem_cons_zero, List.setIfInBounds_toArray, List.set_cons_zero, List.set_cons_succ]
    refine wpAnyH_take (i := 2) (v := (.pointer (some ⟨bs, 0, none⟩))) rfl (by kernel_rfl) (by kernel_rfl) (by kernel_rfl) (fun _ _ _ h => h) (Or.inl ⟨by rfl, fun wx hx => by go_simp⟩) hT0 ?_
    try dsimp only
    try simp only [Act.put, List.getElem_toArray, List.getElem_cons_succ, List.getElem_cons_zero, List.setIfInBounds_toArray, List.set_cons_zero, List.set_cons_succ]
    refine wpAnyH_take (i := 3) (v := (.pointer (some ⟨bx, 0, none⟩))) rfl (by kernel_rfl) (by kernel_rfl) (by kernel_rfl) (fun _ _ _ h => h) (Or.inl ⟨by rfl, fun wx hx => by go_simp⟩) hT0 ?_
    try dsimp only
    try simp only [Act.put, List.getElem_toArray, List.getElem_cons_succ, List.getElem_cons_zero, List.setIfInBounds_toArray, List.set_cons_zero, List.set_cons_succ]
    refine wpAnyH_take (i := 4) (v := (.int .i64 xl)) rfl (by kernel_rfl) (by kernel_rfl) (by kernel_rfl) (fun _ _ _ h => h) (Or.inl ⟨by rfl, fun wx hx => by have hx1 := hx; go_simp⟩) hT0 ?_
    try dsimp only
    try simp only [Act.put, List.getElem_toArray, List.getElem_cons_succ, List.getElem_cons_zero, List.setIfInBounds_toArray, List.set_cons_zero, List.set_cons_succ]
    refine wpAnyH_take (i := 5) (v := (.int .i64 fr)) rfl (by kernel_rfl) (by kernel_rfl) (by kernel_rfl) (fun _ _ _ h => h) (Or.inl ⟨by rfl, fun wx hx => by go_simp⟩) hT0 ?_
    try dsimp only
    try simp only [Act.put, List.getElem_toArray, List.getElem_cons_succ, List.getElem_cons_zero, List.setIfInBounds_toArray, List.set_cons_zero, List.set_cons_succ]
    refine wpAnyH_all (rs := [6]) (by kernel_rfl) (by simp) ?_
    intro jj hjj
    simp only [List.mem_cons, List.not_mem_nil, or_false] at hjj
    subst hjj
    refine wpOp_of_wp rfl rfl ?_
    go_simp
    refine (sIsUnder_any w2.drew bs t (HP2.out.below below_drew) HT.out xl fr HXL.out).mono ?_
    rintro e w3 ⟨rfl, hw3⟩
    subst hw3
    rw [HUV.out]
    refine ⟨hT0, ?_⟩
    try dsimp only
    try simp only [Act.put, List.getElem_toArray, List.getElem_cons_succ, List.getElem_cons_zero, List.setIfInBounds_toArray, List.set_cons_zero, List.set_cons_succ]
    refine wpAnyH_take (i := 7) (v := (.bool (!uv))) rfl (by kernel_rfl) (by kernel_rfl) (by kernel_rfl) (fun _ _ _ h => h) (Or.inl ⟨by rfl, fun wx hx => by go_simp⟩) hT0 ?_
    try dsimp only
    try simp only [Act.put, List.getElem_toArray, List.getElem_cons_succ, List.getElem_cons_zero, List.setIfInBounds_toArray, List.set_cons_zero, List.set_cons_succ]
    refine wpAnyH_done (by kernel_rfl) ?_ _
    clear hT0
    obtain ⟨w3, hw3⟩ : ∃ w3, w3 = w2.drew := ⟨_, rfl⟩
    have HB3 : Hid (Below w2.heap.size w2 w3) := by unfold Hid; rw [hw3]; exact below_drew
    rw [← hw3]
    clear hw3
    have HBA : Hid (Below w.heap.size w w3) := bnext (bnext HB1.out HB2.out) HB3.out
    cases uv with
    | false =>
      have HE : Hid (okIt t fr ⟨xl, xw, xv, xf, xs⟩ = false) := by unfold Hid; rw [HOK.out]; rfl
      clear d0 d1 d2 HOK
      go_wp2
      go_ret
      exact ⟨by rw [HE.out]; rfl, HBA.out⟩
    | true =>
      have e1 : w3.cell? ⟨bx, 1, none⟩ = some (.int .i64 xw) := cell_keep HB3.out d1
      have e2 : w3.cell? ⟨bx, 2, none⟩ = some (.int .i64 xv) := cell_keep HB3.out d2
      clear d0 d1 d2
      by_cases hv : 0 ≤ xv
      · obtain ⟨rv, hrv⟩ : ∃ rv, isRg xw xw = rv := ⟨_, rfl⟩
        have HRV : Hid (isRg xw xw = rv) := hrv
        have HE : Hid (okIt t fr ⟨xl, xw, xv, xf, xs⟩ = rv) := by unfold Hid; rw [HOK.out, hrv]; simp [hv]
        clear hrv HOK
        cases rv with
        | true =>
          go_wp2_with (go_at_call 40; refine (areWindows_any _ _ _).mono ?_; rintro e w4 ⟨rfl, hw4⟩; have hw4 := hw4.symm; subst hw4; rw [HRV.out])
          go_ret
          exact ⟨by rw [HE.out]; rfl, HBA.out⟩
        | false =>
          go_wp2_with (go_at_call 40; refine (areWindows_any _ _ _).mono ?_; rintro e w4 ⟨rfl, hw4⟩; have hw4 := hw4.symm; subst hw4; rw [HRV.out])
          go_ret
          exact ⟨by rw [HE.out]; rfl, HBA.out⟩
      · have HE : Hid (okIt t fr ⟨xl, xw, xv, xf, xs⟩ = false) := by unfold Hid; rw [HOK.out]; simp [hv]
        clear HOK
        go_wp2
        go_ret
        exact ⟨by rw [HE.out]; rfl, HBA.out⟩
theorem ahk_ahd (y x : It) : ahk y x.leaf x.win = ahd y x := rfl
set_option maxHeartbeats 8000000 in
theorem mayCome_any (w : World) (bs : Nat) (t : List Int) (h : PTree w bs t) (hT : Tree t) (n fr : Int) (hn : 0 ≤ n) (l : List It) (p : Option Addr) (m c : Nat) (hm : l.length = m) (hr : RowsAt clIt w p l) (hml : m ≤ 1000000000) :
    Calls Try.prog 27 #[.pointer (some ⟨bs, 0, none⟩), .int .i64 n, .agg #[.int .i64 fr, .slice p m c]] w fun e w' => e = .returned (.bool (fair t n fr l)) ∧ Below w.heap.size w w' := by
  have HT : Hid (Tree t) := hT
  have h8 := hT.le
  obtain ⟨bx, hbx⟩ : ∃ bx, bx = w.heap.size := ⟨_, rfl⟩
  obtain ⟨w1, hw1⟩ : ∃ w1, w1 = w.alloc (.cells #[.int .i64 fr, .slice p m c] 34) := ⟨_, rfl⟩
  have HB1 : Hid (Below w.heap.size w w1) := by unfold Hid; rw [hw1]; exact below_alloc _ _
  have HP0 : Hid (PTree w bs t) := h
  have HP1 : Hid (PTree w1 bs t) := h.below HB1.out
  have G1 : Hid (w1.heap[bx]? = some (.cells #[.int .i64 fr, .slice p m c] 34)) := by unfold Hid; rw [hw1, hbx]; exact heap_alloc_new _ _
  have c0 : w1.cell? ⟨bx, 0, none⟩ = some (.int .i64 fr) := by rw [cell_of_row _ _ _ _ _ _ G1.out]; rfl
  have HRW : Hid (RowsAt clIt w p l) := hr
  have HBX : Hid (bx = w.heap.size) := hbx
  obtain ⟨pv, hpv⟩ : ∃ pv, isPar t n fr = pv := ⟨_, rfl⟩
  have HPV : Hid (isPar t n fr = pv) := hpv
  have HPF : Hid (isPar t n fr = true ↔ isNd t fr = true ∧ t.getD fr.toNat 0 = n) := isPar_fair hT hn
  clear h hT hr hpv
  cases pv with
  | false =>
    have HE : Hid (fair t n fr l = false) := fair_no fun ⟨h1, h2, _⟩ => by have := HPF.out.2 ⟨h1, h2⟩; rw [HPV.out] at this; cases this
    clear HPF
    go_enter Try.func27, Try.ntmps27
    go_upto_region 1 with fail
    rw [← hw1, ← hbx]
    clear hw1 hbx
    have hT0 : (fun w' : World => w'.cell? ⟨bx, 0, none⟩ = some (.int .i64 fr)) w1.drew := c0
    refine wp_region_held (S := fun w' : World => w'.cell? ⟨bx, 0, none⟩ = some (.int .i64 fr)) mixed ?_
    refine wpAnyH_take (i := 0) (v := (.pointer (some ⟨bs, 0, none⟩))) rfl (by kernel_rfl) (by kernel_rfl) (by kernel_rfl) (fun _ _ _ h => h) (Or.inl ⟨by rfl, fun wx hx => by go_simp⟩) hT0 ?_
    try dsimp only
    try simp only [Act.put, List.getElem_toArray, List.getElem_cons_succ, List.getElem_cons_zero, List.setIfInBounds_toArray, List.set_cons_zero, List.set_cons_succ]
    refine wpAnyH_take (i := 1) (v := (.pointer (some ⟨bs, 0, none⟩))) rfl (by kernel_rfl) (by kernel_rfl) (by kernel_rfl) (fun _ _ _ h => h) (Or.inl ⟨by rfl, fun wx hx => by go_simp⟩) hT0 ?_
    try dsimp only
    try simp only [Act.put, List.getElem_toArray, List.getElem_cons_succ, List.getElem_cons_zero, List.setIfInBounds_toArray, List.set_cons_zero, List.set_cons_succ]
    refine wpAnyH_take (i := 2) (v := (.pointer (some ⟨bs, 0, none⟩))) rfl (by kernel_rfl) (by kernel_rfl) (by kernel_rfl) (fun _ _ _ h => h) (Or.inl ⟨by rfl, fun wx hx => by go_simp⟩) hT0 ?_
    try dsimp only
    try simp only [Act.put, List.getElem_toArray, List.getElem_cons_succ, List.getElem_cons_zero, List.setIfInBounds_toArray, List.set_cons_zero, List.set_cons_succ]
    refine wpAnyH_take (i := 3) (v := (.int .i64 n)) rfl (by kernel_rfl) (by kernel_rfl) (by kernel_rfl) (fun _ _ _ h => h) (Or.inl ⟨by rfl, fun wx hx => by go_simp⟩) hT0 ?_
    try dsimp only
    try simp only [Act.put, List.getElem_toArray, List.getElem_cons_succ, List.getElem_cons_zero, List.setIfInBounds_toArray, List.set_cons_zero, List.set_cons_succ]
    refine wpAnyH_take (i := 4) (v := (.pointer (some ⟨bx, 0, none⟩))) rfl (by kernel_rfl) (by kernel_rfl) (by kernel_rfl) (fun _ _ _ h => h) (Or.inl ⟨by rfl, fun wx hx => by go_simp⟩) hT0 ?_
    try dsimp only
    try simp only [Act.put, List.getElem_toArray, List.getElem_cons_succ, List.getElem_cons_zero, List.setIfInBounds_toArray, List.set_cons_zero, List.set_cons_succ]
    refine wpAnyH_take (i := 5) (v := (.int .i64 fr)) rfl (by kernel_rfl) (by kernel_rfl) (by kernel_rfl) (fun _ _ _ h => h) (Or.inl ⟨by rfl, fun wx hx => by have hx1 := hx; go_simp⟩) hT0 ?_
    try dsimp only
    try simp only [Act.put, List.getElem_toArray, List.getElem_cons_succ, List.getElem_cons_zero, List.setIfInBounds_toArray, List.set_cons_zero, List.set_cons_succ]
    refine wpAnyH_all (rs := [6]) (by kernel_rfl) (by simp) ?_
    intro jj hjj
    simp only [List.mem_cons, List.not_mem_nil, or_false] at hjj
    subst hjj
    refine wpOp_of_wp rfl rfl ?_
    go_simp
    refine (sIsParent_any w1.drew bs t (HP1.out.below below_drew) n fr h8).mono ?_
    rintro e w2 ⟨rfl, hw2⟩
    subst hw2
    rw [HPV.out]
    refine ⟨hT0, ?_⟩
    try dsimp only
    try simp only [Act.put, List.getElem_toArray, List.getElem_cons_succ, List.getElem_cons_zero, List.setIfInBounds_toArray, List.set_cons_zero, List.set_cons_succ]
    refine wpAnyH_take (i := 7) (v := (.bool true)) rfl (by kernel_rfl) (by kernel_rfl) (by kernel_rfl) (fun _ _ _ h => h) (Or.inl ⟨by rfl, fun wx hx => by go_simp⟩) hT0 ?_
    try dsimp only
    try simp only [Act.put, List.getElem_toArray, List.getElem_cons_succ, List.getElem_cons_zero, List.setIfInBounds_toArray, List.set_cons_zero, List.set_cons_succ]
    refine wpAnyH_done (by kernel_rfl) ?_ _
    clear hT0
    go_wp2
    go_ret
    exact ⟨by rw [HE.out]; rfl, bnext HB1.out below_drew⟩
  | true =>
    have HPR : Hid (isNd t fr = true ∧ t.getD fr.toNat 0 = n) := HPF.out.1 HPV.out
    clear HPF
    go_enter Try.func27, Try.ntmps27
    go_upto_region 1 with fail
    rw [← hw1, ← hbx]
    clear hw1 hbx
    have hT0 : (fun w' : World => w'.cell? ⟨bx, 0, none⟩ = some (.int .i64 fr)) w1.drew := c0
    refine wp_region_held (S := fun w' : World => w'.cell? ⟨bx, 0, none⟩ = some (.int .i64 fr)) mixed ?_
    refine wpAnyH_take (i := 0) (v := (.pointer (some ⟨bs, 0, none⟩))) rfl (by kernel_rfl) (by kernel_rfl) (by kernel_rfl) (fun _ _ _ h => h) (Or.inl ⟨by rfl, fun wx hx => by go_simp⟩) hT0 ?_
    try dsimp only
    try simp only [Act.put, List.getElem_toArray, List.getElem_cons_succ, List.getElem_cons_zero, List.setIfInBounds_toArray, List.set_cons_zero, List.set_cons_succ]
    refine wpAnyH_take (i := 1) (v := (.pointer (some ⟨bs, 0, none⟩))) rfl (by kernel_rfl) (by kernel_rfl) (by kernel_rfl) (fun _ _ _ h => h) (Or.inl ⟨by rfl, fun wx hx => by go_simp⟩) hT0 ?_
    try dsimp only
    try simp only [Act.put, List.getElem_toArray, List.getElem_cons_succ, List.getElem_cons_zero, List.setIfInBounds_toArray, List.set_cons_zero, List.set_cons_succ]
    refine wpAnyH_take (i := 2) (v := (.pointer (some ⟨bs, 0, none⟩))) rfl (by kernel_rfl) (by kernel_rfl) (by kernel_rfl) (fun _ _ _ h => h) (Or.inl ⟨by rfl, fun wx hx => by go_simp⟩) hT0 ?_
    try dsimp only
    try simp only [Act.put, List.getElem_toArray, List.getElem_cons_succ, List.getElem_cons_zero, List.setIfInBounds_toArray, List.set_cons_zero, List.set_cons_succ]
    refine wpAnyH_take (i := 3) (v := (.int .i64 n)) rfl (by kernel_rfl) (by kernel_rfl) (by kernel_rfl) (fun _ _ _ h => h) (Or.inl ⟨by rfl, fun wx hx => by go_simp⟩) hT0 ?_
    try dsimp only
    try simp only [Act.put, List.getElem_toArray, List.getElem_cons_succ, List.getElem_cons_zero, List.setIfInBounds_toArray, List.set_cons_zero, List.set_cons_succ]
    refine wpAnyH_take (i := 4) (v := (.pointer (some ⟨bx, 0, none⟩))) rfl (by kernel_rfl) (by kernel_rfl) (by kernel_rfl) (fun _ _ _ h => h) (Or.inl ⟨by rfl, fun wx hx => by go_simp⟩) hT0 ?_
    try dsimp only
    try simp only [Act.put, List.getElem_toArray, List.getElem_cons_succ, List.getElem_cons_zero, List.setIfInBounds_toArray, List.set_cons_zero, List.set_cons_succ]
    refine wpAnyH_take (i := 5) (v := (.int .i64 fr)) rfl (by kernel_rfl) (by kernel_rfl) (by kernel_rfl) (fun _ _ _ h => h) (Or.inl ⟨by rfl, fun wx hx => by have hx1 := hx; go_simp⟩) hT0 ?_
    try dsimp only
    try simp only [Act.put, List.getElem_toArray, List.getElem_cons_succ, List.getElem_cons_zero, List.setIfInBounds_toArray, List.set_cons_zero, List.set_cons_succ]
    refine wpAnyH_all (rs := [6]) (by kernel_rfl) (by simp) ?_
    intro jj hjj
    simp only [List.mem_cons, List.not_mem_nil, or_false] at hjj
    subst hjj
    refine wpOp_of_wp rfl rfl ?_
    go_simp
    refine (sIsParent_any w1.drew bs t (HP1.out.below below_drew) n fr h8).mono ?_
    rintro e w2 ⟨rfl, hw2⟩
    subst hw2
    rw [HPV.out]
    refine ⟨hT0, ?_⟩
    try dsimp only
    try simp only [Act.put, List.getElem_toArray, List.getElem_cons_succ, List.getElem_cons_zero, List.setIfInBounds_toArray, List.set_cons_zero, List.set_cons_succ]
    refine wpAnyH_take (i := 7) (v := (.bool false)) rfl (by kernel_rfl) (by kernel_rfl) (by kernel_rfl) (fun _ _ _ h => h) (Or.inl ⟨by rfl, fun wx hx => by go_simp⟩) hT0 ?_
    try dsimp only
    try simp only [Act.put, List.getElem_toArray, List.getElem_cons_succ, List.getElem_cons_zero, List.setIfInBounds_toArray, List.set_cons_zero, List.set_cons_succ]
    refine wpAnyH_done (by kernel_rfl) ?_ _
    clear hT0 c0
    obtain ⟨w2, hw2⟩ : ∃ w2, w2 = w1.drew := ⟨_, rfl⟩
    have HB2 : Hid (Below w.heap.size w w2) := by unfold Hid; rw [hw2]; exact bnext HB1.out below_drew
    have G2 : Hid (w2.heap[bx]? = some (.cells #[.int .i64 fr, .slice p m c] 34)) := by unfold Hid; rw [hw2]; exact G1.out
    rw [← hw2]
    clear hw2 HB1 G1 HP1
    go_wp2
    go_loopw [7] (fun iv wr => ∃ i : Nat, i ≤ m ∧ iv = .int .i64 i ∧ fairTo t fr l i ∧ Below w.heap.size w wr ∧ wr.heap[bx]? = some (.cells #[.int .i64 fr, .slice p m c] 34)) (fun iv _ => m - (intOf iv).toNat)
    case atStart => exact ⟨0, by omega, rfl, fun i hi => by omega, HB2.out, G2.out⟩
    case round =>
      clear HB2 G2
      obtain ⟨i, hi, rfl, hft, hB, gP⟩ := hrel
      have HF : Hid (fairTo t fr l i) := hft
      have HB : Hid (Below w.heap.size w wr) := hB
      have GP : Hid (wr.heap[bx]? = some (.cells #[.int .i64 fr, .slice p m c] 34)) := gP
      have p1 : wr.cell? ⟨bx, 1, none⟩ = some (.slice p m c) := by rw [cell_of_row _ _ _ _ _ _ gP]; rfl
      have p0 : wr.cell? ⟨bx, 0, none⟩ = some (.int .i64 fr) := by rw [cell_of_row _ _ _ _ _ _ gP]; rfl
      clear hft gP
      by_cases hli : i < m
      · obtain ⟨x, hx⟩ : ∃ x, l[i]? = some x := ⟨_, List.getElem?_eq_getElem (by omega)⟩
        obtain ⟨b0, off, rfl, hlt, hcx⟩ := HRW.out.pos i (by omega)
        have HRX : Hid (wr.rangeAt b0 (off + i * 32) x.cells) := range_below hB hlt (hcx i x hx)
        have HPRV : Hid (∀ y, l[i - 1]? = some y → wr.rangeAt b0 (off + (i - 1) * 32) y.cells) := fun y hy => range_below hB hlt (hcx (i - 1) y hy)
        have hbl : b0 < wr.heap.size := Nat.lt_of_lt_of_le hlt hB.size
        obtain ⟨X, hX⟩ : ∃ X, IsIt X x := ⟨_, isIt_of x⟩
        have HX : Hid (IsIt X x) := hX
        have HLX : Hid (l[i]? = some x) := hx
        obtain ⟨kv, hkv⟩ : ∃ kv, okIt t fr x = kv := ⟨_, rfl⟩
        have HKV : Hid (okIt t fr x = kv) := hkv
        have i0 : (0 : Int) ≤ (i : Int) := by omega
        have i1 : (i : Int) < (m : Int) := by omega
        clear hcx hB hlt hX hx hkv
        go_upto_region 6 with fail
        have hT0 : (fun w' : World => w'.cell? ⟨bx, 0, none⟩ = some (.int .i64 fr) ∧ w'.cell? ⟨bx, 1, none⟩ = some (.slice (some ⟨b0, off, none⟩) m c) ∧ w'.rangeAt b0 (off + i * 32) x.cells) wr.drew := ⟨p0, p1, HRX.out⟩
        refine wp_region_held (S := fun w' : World => w'.cell? ⟨bx, 0, none⟩ = some (.int .i64 fr) ∧ w'.cell? ⟨bx, 1, none⟩ = some (.slice (some ⟨b0, off, none⟩) m c) ∧ w'.rangeAt b0 (off + i * 32) x.cells) mixed ?_
        refine wpAnyH_take (i := 0) (v := (.pointer (some ⟨bs, 0, none⟩))) rfl (by kernel_rfl) (by kernel_rfl) (by kernel_rfl) (fun _ _ _ h => h) (Or.inl ⟨by rfl, fun wx hx => by go_simp⟩) hT0 ?_
        try dsimp only
        try simp only [Act.put, List.getElem_toArray, List.getElem_cons_succ, List.getElem_cons_zero, List.setIfInBounds_toArray, List.set_cons_zero, List.set_cons_succ]
        refine wpAnyH_take (i := 1) (v := (.pointer (some ⟨bx, 0, none⟩))) rfl (by kernel_rfl) (by kernel_rfl) (by kernel_rfl) (fun _ _ _ h => h) (Or.inl ⟨by rfl, fun wx hx => by go_simp⟩) hT0 ?_
        try dsimp only
        try simp only [Act.put, List.getElem_toArray, List.getElem_cons_succ, List.getElem_cons_zero, List.setIfInBounds_toArray, List.set_cons_zero, List.set_cons_succ]
        refine wpAnyH_take (i := 2) (v := (.int .i64 fr)) rfl (by kernel_rfl) (by kernel_rfl) (by kernel_rfl) (fun _ _ _ h => h) (Or.inl ⟨by rfl, fun wx hx => by have hx1 := hx.1; go_simp⟩) hT0 ?_
        try dsimp only
        try simp only [Act.put, List.getElem_toArray, List.getElem_cons_succ, List.getElem_cons_zero, List.setIfInBounds_toArray, List.set_cons_zero, List.set_cons_succ]
        refine wpAnyH_take (i := 3) (v := (.pointer (some ⟨bx, 1, none⟩))) rfl (by kernel_rfl) (by kernel_rfl) (by kernel_rfl) (fun _ _ _ h => h) (Or.inl ⟨by rfl, fun wx hx => by go_simp⟩) hT0 ?_
        try dsimp only
        try simp only [Act.put, List.getElem_toArray, List.getElem_cons_succ, List.getElem_cons_zero, List.setIfInBounds_toArray, List.set_cons_zero, List.set_cons_succ]
        refine wpAnyH_take (i := 4) (v := (.slice (some ⟨b0, off, none⟩) m c)) rfl (by kernel_rfl) (by kernel_rfl) (by kernel_rfl) (fun _ _ _ h => h) (Or.inl ⟨by rfl, fun wx hx => by have hx1 := hx.2.1; go_simp⟩) hT0 ?_
        try dsimp only
        try simp only [Act.put, List.getElem_toArray, List.getElem_cons_succ, List.getElem_cons_zero, List.setIfInBounds_toArray, List.set_cons_zero, List.set_cons_succ]
        refine wpAnyH_take (i := 5) (v := (.int .i64 i)) rfl (by kernel_rfl) (by kernel_rfl) (by kernel_rfl) (fun _ _ _ h => h) (Or.inl ⟨by rfl, fun wx hx => by go_simp⟩) hT0 ?_
        try dsimp only
        try simp only [Act.put, List.getElem_toArray, List.getElem_cons_succ, List.getElem_cons_zero, List.setIfInBounds_toArray, List.set_cons_zero, List.set_cons_succ]
        refine wpAnyH_take (i := 6) (v := (.pointer (some ⟨b0, off + i * 32, none⟩))) rfl (by kernel_rfl) (by kernel_rfl) (by kernel_rfl) (fun _ _ _ h => h) (Or.inl ⟨by rfl, fun wx hx => by go_simp⟩) hT0 ?_
        try dsimp only
        try simp only [Act.put, List.getElem_toArray, List.getElem_cons_succ, List.getElem_cons_zero, List.setIfInBounds_toArray, List.set_cons_zero, List.set_cons_succ]
        refine wpAnyH_take (i := 7) (v := (.agg X)) rfl (by kernel_rfl) (by kernel_rfl) (by kernel_rfl) (fun _ _ _ h => h) (yieldsIf_load_it_mid (by rfl) _ rfl _ _ rfl X _ HX.out (fun wx hx => hx.2.2)) hT0 ?_
        try dsimp only
        try simp only [Act.put, List.getElem_toArray, List.getElem_cons_succ, List.getElem_cons_zero, List.setIfInBounds_toArray, List.set_cons_zero, List.set_cons_succ]
        refine wpAnyH_all (rs := [8]) (by kernel_rfl) (by simp) ?_
        intro jj hjj
        simp only [List.mem_cons, List.not_mem_nil, or_false] at hjj
        subst hjj
        refine wpOp_of_wp rfl rfl ?_
        go_simp
        refine (mayHave_any wr.drew bs t (HP0.out.below (bnext HB.out below_drew)) HT.out fr x X HX.out).mono ?_
        rintro e w3 ⟨rfl, hb3⟩
        replace hb3 : Below wr.heap.size wr w3 := below_drawn' hb3
        rw [HKV.out]
        have hT1 : (fun w' : World => w'.cell? ⟨bx, 0, none⟩ = some (.int .i64 fr) ∧ w'.cell? ⟨bx, 1, none⟩ = some (.slice (some ⟨b0, off, none⟩) m c) ∧ w'.rangeAt b0 (off + i * 32) x.cells) w3 := ⟨cell_keep hb3 p0, cell_keep hb3 p1, range_below hb3 hbl HRX.out⟩
        have HB3 : Hid (Below w.heap.size w w3) := bnext HB.out hb3
        have G3 : Hid (w3.heap[bx]? = some (.cells #[.int .i64 fr, .slice (some ⟨b0, off, none⟩) m c] 34)) := keep hb3 GP.out
        have HRX3 : Hid (w3.rangeAt b0 (off + i * 32) x.cells) := range_below hb3 hbl HRX.out
        have HPR3 : Hid (∀ y, l[i - 1]? = some y → w3.rangeAt b0 (off + (i - 1) * 32) y.cells) := fun y hy => range_below hb3 hbl (HPRV.out y hy)
        have q1 : w3.cell? ⟨bx, 1, none⟩ = some (.slice (some ⟨b0, off, none⟩) m c) := cell_keep hb3 p1
        have hbl3 : b0 < w3.heap.size := Nat.lt_of_lt_of_le hbl hb3.size
        cases kv with
        | false =>
          have HE : Hid (fair t n fr l = false) := fair_bad i (by omega) (by simp [okAt, HLX.out, HKV.out])
          refine ⟨hT1, ?_⟩
          try dsimp only
          try simp only [Act.put, List.getElem_toArray, List.getElem_cons_succ, List.getElem_cons_zero, List.setIfInBounds_toArray, List.set_cons_zero, List.set_cons_succ]
          refine wpAnyH_take (i := 9) (v := (.bool true)) rfl (by kernel_rfl) (by kernel_rfl) (by kernel_rfl) (fun _ _ _ h => h) (Or.inl ⟨by rfl, fun wx hx => by go_simp⟩) hT1 ?_
          try dsimp only
          try simp only [Act.put, List.getElem_toArray, List.getElem_cons_succ, List.getElem_cons_zero, List.setIfInBounds_toArray, List.set_cons_zero, List.set_cons_succ]
          refine wpAnyH_done (by kernel_rfl) ?_ _
          clear hT0 hT1 hb3 p0 p1 q1
          go_wp2
          go_ret
          exact ⟨by rw [HE.out]; rfl, HB3.out⟩
        | true =>
          refine ⟨hT1, ?_⟩
          try dsimp only
          try simp only [Act.put, List.getElem_toArray, List.getElem_cons_succ, List.getElem_cons_zero, List.setIfInBounds_toArray, List.set_cons_zero, List.set_cons_succ]
          refine wpAnyH_take (i := 9) (v := (.bool false)) rfl (by kernel_rfl) (by kernel_rfl) (by kernel_rfl) (fun _ _ _ h => h) (Or.inl ⟨by rfl, fun wx hx => by go_simp⟩) hT1 ?_
          try dsimp only
          try simp only [Act.put, List.getElem_toArray, List.getElem_cons_succ, List.getElem_cons_zero, List.setIfInBounds_toArray, List.set_cons_zero, List.set_cons_succ]
          refine wpAnyH_done (by kernel_rfl) ?_ _
          clear hT0 hT1 hb3 p0 p1 HB GP HRX HPRV hbl
          go_upto_region 8 with fail
          by_cases hz : i = 0
          · subst hz
            have HF2 : Hid (fairTo t fr l 1) := fun q hq => by
              obtain rfl : q = 0 := by omega
              simp [okAt, HLX.out, HKV.out]
            have hT0 : (fun w' : World => w.heap.size ≤ w'.heap.size) w3.drew := HB3.out.size
            refine wp_region_held (S := fun w' : World => w.heap.size ≤ w'.heap.size) mixed ?_
            refine wpAnyH_take (i := 0) (v := (.int .i64 0)) rfl (by kernel_rfl) (by kernel_rfl) (by kernel_rfl) (fun _ _ _ h => h) (Or.inl ⟨by rfl, fun wx hx => by go_simp⟩) hT0 ?_
            try dsimp only
            try simp only [Act.put, List.getElem_toArray, List.getElem_cons_succ, List.getElem_cons_zero, List.setIfInBounds_toArray, List.set_cons_zero, List.set_cons_succ]
            refine wpAnyH_take (i := 1) (v := (.bool false)) rfl (by kernel_rfl) (by kernel_rfl) (by kernel_rfl) (fun _ _ _ h => h) (Or.inl ⟨by rfl, fun wx hx => by go_simp⟩) hT0 ?_
            try dsimp only
            try simp only [Act.put, List.getElem_toArray, List.getElem_cons_succ, List.getElem_cons_zero, List.setIfInBounds_toArray, List.set_cons_zero, List.set_cons_succ]
            refine wpAnyH_take (i := 2) (v := (.bool false)) rfl (by kernel_rfl) (by kernel_rfl) (by kernel_rfl) (fun _ _ _ h => h) (Or.inl ⟨by rfl, fun wx hx => by go_simp⟩) hT0 ?_
            try dsimp only
            try simp only [Act.put, List.getElem_toArray, List.getElem_cons_succ, List.getElem_cons_zero, List.setIfInBounds_toArray, List.set_cons_zero, List.set_cons_succ]
            refine wpAnyH_take (i := 3) (v := undef) rfl (by kernel_rfl) (by kernel_rfl) (by kernel_rfl) (fun _ _ _ h => h) (Or.inr ⟨by rfl, rfl⟩) hT0 ?_
            try dsimp only
            try simp only [Act.put, List.getElem_toArray, List.getElem_cons_succ, List.getElem_cons_zero, List.setIfInBounds_toArray, List.set_cons_zero, List.set_cons_succ]
            refine wpAnyH_take (i := 4) (v := undef) rfl (by kernel_rfl) (by kernel_rfl) (by kernel_rfl) (fun _ _ _ h => h) (Or.inr ⟨by rfl, rfl⟩) hT0 ?_
            try dsimp only
            try simp only [Act.put, List.getElem_toArray, List.getElem_cons_succ, List.getElem_cons_zero, List.setIfInBounds_toArray, List.set_cons_zero, List.set_cons_succ]
            refine wpAnyH_take (i := 5) (v := undef) rfl (by kernel_rfl) (by kernel_rfl) (by kernel_rfl) (fun _ _ _ h => h) (Or.inr ⟨by rfl, rfl⟩) hT0 ?_
            try dsimp only
            try simp only [Act.put, List.getElem_toArray, List.getElem_cons_succ, List.getElem_cons_zero, List.setIfInBounds_toArray, List.set_cons_zero, List.set_cons_succ]
            refine wpAnyH_take (i := 6) (v := undef) rfl (by kernel_rfl) (by kernel_rfl) (by kernel_rfl) (fun _ _ _ h => h) (Or.inr ⟨by rfl, rfl⟩) hT0 ?_
            try dsimp only
            try simp only [Act.put, List.getElem_toArray, List.getElem_cons_succ, List.getElem_cons_zero, List.setIfInBounds_toArray, List.set_cons_zero, List.set_cons_succ]
            refine wpAnyH_take (i := 7) (v := undef) rfl (by kernel_rfl) (by kernel_rfl) (by kernel_rfl) (fun _ _ _ h => h) (Or.inr ⟨by rfl, rfl⟩) hT0 ?_
            try dsimp only
            try simp only [Act.put, List.getElem_toArray, List.getElem_cons_succ, List.getElem_cons_zero, List.setIfInBounds_toArray, List.set_cons_zero, List.set_cons_succ]
            refine wpAnyH_take (i := 8) (v := undef) rfl (by kernel_rfl) (by kernel_rfl) (by kernel_rfl) (fun _ _ _ h => h) (Or.inr ⟨by rfl, rfl⟩) hT0 ?_
            try dsimp only
            try simp only [Act.put, List.getElem_toArray, List.getElem_cons_succ, List.getElem_cons_zero, List.setIfInBounds_toArray, List.set_cons_zero, List.set_cons_succ]
            refine wpAnyH_take (i := 9) (v := undef) rfl (by kernel_rfl) (by kernel_rfl) (by kernel_rfl) (fun _ _ _ h => h) (Or.inr ⟨by rfl, rfl⟩) hT0 ?_
            try dsimp only
            try simp only [Act.put, List.getElem_toArray, List.getElem_cons_succ, List.getElem_cons_zero, List.setIfInBounds_toArray, List.set_cons_zero, List.set_cons_succ]
            refine wpAnyH_take (i := 10) (v := undef) rfl (by kernel_rfl) (by kernel_rfl) (by kernel_rfl) (fun _ _ _ h => h) (Or.inr ⟨by rfl, rfl⟩) hT0 ?_
            try dsimp only
            try simp only [Act.put, List.getElem_toArray, List.getElem_cons_succ, List.getElem_cons_zero, List.setIfInBounds_toArray, List.set_cons_zero, List.set_cons_succ]
            refine wpAnyH_take (i := 11) (v := undef) rfl (by kernel_rfl) (by kernel_rfl) (by kernel_rfl) (fun _ _ _ h => h) (Or.inr ⟨by rfl, rfl⟩) hT0 ?_
            try dsimp only
            try simp only [Act.put, List.getElem_toArray, List.getElem_cons_succ, List.getElem_cons_zero, List.setIfInBounds_toArray, List.set_cons_zero, List.set_cons_succ]
            refine wpAnyH_take (i := 12) (v := undef) rfl (by kernel_rfl) (by kernel_rfl) (by kernel_rfl) (fun _ _ _ h => h) (Or.inr ⟨by rfl, rfl⟩) hT0 ?_
            try dsimp only
            try simp only [Act.put, List.getElem_toArray, List.getElem_cons_succ, List.getElem_cons_zero, List.setIfInBounds_toArray, List.set_cons_zero, List.set_cons_succ]
            refine wpAnyH_take (i := 13) (v := undef) rfl (by kernel_rfl) (by kernel_rfl) (by kernel_rfl) (fun _ _ _ h => h) (Or.inr ⟨by rfl, rfl⟩) hT0 ?_
            try dsimp only
            try simp only [Act.put, List.getElem_toArray, List.getElem_cons_succ, List.getElem_cons_zero, List.setIfInBounds_toArray, List.set_cons_zero, List.set_cons_succ]
            refine wpAnyH_take (i := 14) (v := undef) rfl (by kernel_rfl) (by kernel_rfl) (by kernel_rfl) (fun _ _ _ h => h) (Or.inr ⟨by rfl, rfl⟩) hT0 ?_
            try dsimp only
            try simp only [Act.put, List.getElem_toArray, List.getElem_cons_succ, List.getElem_cons_zero, List.setIfInBounds_toArray, List.set_cons_zero, List.set_cons_succ]
            refine wpAnyH_take (i := 15) (v := undef) rfl (by kernel_rfl) (by kernel_rfl) (by kernel_rfl) (fun _ _ _ h => h) (Or.inr ⟨by rfl, rfl⟩) hT0 ?_
            try dsimp only
            try simp only [Act.put, List.getElem_toArray, List.getElem_cons_succ, List.getElem_cons_zero, List.setIfInBounds_toArray, List.set_cons_zero, List.set_cons_succ]
            refine wpAnyH_take (i := 16) (v := undef) rfl (by kernel_rfl) (by kernel_rfl) (by kernel_rfl) (fun _ _ _ h => h) (Or.inr ⟨by rfl, rfl⟩) hT0 ?_
            try dsimp only
            try simp only [Act.put, List.getElem_toArray, List.getElem_cons_succ, List.getElem_cons_zero, List.setIfInBounds_toArray, List.set_cons_zero, List.set_cons_succ]
            refine wpAnyH_take (i := 17) (v := undef) rfl (by kernel_rfl) (by kernel_rfl) (by kernel_rfl) (fun _ _ _ h => h) (Or.inr ⟨by rfl, rfl⟩) hT0 ?_
            try dsimp only
            try simp only [Act.put, List.getElem_toArray, List.getElem_cons_succ, List.getElem_cons_zero, List.setIfInBounds_toArray, List.set_cons_zero, List.set_cons_succ]
            refine wpAnyH_take (i := 18) (v := undef) rfl (by kernel_rfl) (by kernel_rfl) (by kernel_rfl) (fun _ _ _ h => h) (Or.inr ⟨by rfl, rfl⟩) hT0 ?_
            try dsimp only
            try simp only [Act.put, List.getElem_toArray, List.getElem_cons_succ, List.getElem_cons_zero, List.setIfInBounds_toArray, List.set_cons_zero, List.set_cons_succ]
            refine wpAnyH_take (i := 19) (v := undef) rfl (by kernel_rfl) (by kernel_rfl) (by kernel_rfl) (fun _ _ _ h => h) (Or.inr ⟨by rfl, rfl⟩) hT0 ?_
            try dsimp only
            try simp only [Act.put, List.getElem_toArray, List.getElem_cons_succ, List.getElem_cons_zero, List.setIfInBounds_toArray, List.set_cons_zero, List.set_cons_succ]
            refine wpAnyH_take (i := 20) (v := undef) rfl (by kernel_rfl) (by kernel_rfl) (by kernel_rfl) (fun _ _ _ h => h) (Or.inr ⟨by rfl, rfl⟩) hT0 ?_
            try dsimp only
            try simp only [Act.put, List.getElem_toArray, List.getElem_cons_succ, List.getElem_cons_zero, List.setIfInBounds_toArray, List.set_cons_zero, List.set_cons_succ]
            refine wpAnyH_take (i := 21) (v := undef) rfl (by kernel_rfl) (by kernel_rfl) (by kernel_rfl) (fun _ _ _ h => h) (Or.inr ⟨by rfl, rfl⟩) hT0 ?_
            try dsimp only
            try simp only [Act.put, List.getElem_toArray, List.getElem_cons_succ, List.getElem_cons_zero, List.setIfInBounds_toArray, List.set_cons_zero, List.set_cons_succ]
            refine wpAnyH_take (i := 22) (v := undef) rfl (by kernel_rfl) (by kernel_rfl) (by kernel_rfl) (fun _ _ _ h => h) (Or.inr ⟨by rfl, rfl⟩) hT0 ?_
            try dsimp only
            try simp only [Act.put, List.getElem_toArray, List.getElem_cons_succ, List.getElem_cons_zero, List.setIfInBounds_toArray, List.set_cons_zero, List.set_cons_succ]
            refine wpAnyH_take (i := 23) (v := (.bool false)) rfl (by kernel_rfl) (by kernel_rfl) (by kernel_rfl) (fun _ _ _ h => h) (Or.inl ⟨by rfl, fun wx hx => by go_simp⟩) hT0 ?_
            try dsimp only
            try simp only [Act.put, List.getElem_toArray, List.getElem_cons_succ, List.getElem_cons_zero, List.setIfInBounds_toArray, List.set_cons_zero, List.set_cons_succ]
            refine wpAnyH_done (by kernel_rfl) ?_ _
            clear hT0 q1
            obtain ⟨w4, hw4⟩ : ∃ w4, w4 = w3.drew := ⟨_, rfl⟩
            have HB4 : Hid (Below w.heap.size w w4) := by unfold Hid; rw [hw4]; exact bnext HB3.out below_drew
            have G4 : Hid (w4.heap[bx]? = some (.cells #[.int .i64 fr, .slice (some ⟨b0, off, none⟩) m c] 34)) := by unfold Hid; rw [hw4]; exact G3.out
            show Exit.then _ _ Exit.normal _ w3.drew
            rw [← hw4]
            clear hw4
            go_wp2
            go_roundw
            case rel => exact ⟨1, by omega, by go_num, HF2.out, HB4.out, G4.out⟩
            case measure => simp [intOf]; omega
          · obtain ⟨j, rfl⟩ : ∃ j, i = j + 1 := ⟨i - 1, by omega⟩
            obtain ⟨y, hy⟩ : ∃ y, l[j]? = some y := ⟨_, List.getElem?_eq_getElem (by omega)⟩
            have HRY : Hid (w3.rangeAt b0 (off + j * 32) y.cells) := HPR3.out y (by simpa using hy)
            obtain ⟨Y, hY⟩ : ∃ Y, IsIt Y y := ⟨_, isIt_of y⟩
            have HY : Hid (IsIt Y y) := hY
            obtain ⟨av, hav⟩ : ∃ av, ahd y x = av := ⟨_, rfl⟩
            have HAV : Hid (ahk y x.leaf x.win = av) := hav
            have HOA : Hid (okAt t fr l (j + 1) = av) := by
              unfold Hid okAt
              rw [HLX.out]
              simp [HKV.out, hy, hav]
            obtain ⟨xl, hxl⟩ : ∃ xl, x.leaf = xl := ⟨_, rfl⟩
            obtain ⟨xw, hxw⟩ : ∃ xw, x.win = xw := ⟨_, rfl⟩
            have x0 : w3.cell? ⟨b0, off + (j + 1) * 32, none⟩ = some (.int .i64 xl) := by rw [← hxl]; exact HRX3.out 0 _ rfl
            have x1 : w3.cell? ⟨b0, off + (j + 1) * 32 + 1, none⟩ = some (.int .i64 xw) := by rw [← hxw]; exact HRX3.out 1 _ rfl
            rw [hxl, hxw] at HAV
            have ei : IntKind.i64.wrap (j : Int) = (j : Int) := IntWalk.i64_in _ ⟨by omega, by omega⟩
            have i2 : (0 : Int) ≤ (j : Int) + 1 := by omega
            have i3 : (j : Int) + 1 < (m : Int) := by omega
            have j0 : (0 : Int) ≤ (j : Int) := by omega
            have j1 : (j : Int) < (m : Int) := by omega
            have jp : (0 : Int) < ((j + 1 : Nat) : Int) := by omega
            clear hy hY hav hxl hxw
            have hT0 : (fun w' : World => w'.cell? ⟨bx, 1, none⟩ = some (.slice (some ⟨b0, off, none⟩) m c) ∧ w'.rangeAt b0 (off + j * 32) y.cells ∧ w'.cell? ⟨b0, off + (j + 1) * 32, none⟩ = some (.int .i64 xl) ∧ w'.cell? ⟨b0, off + (j + 1) * 32 + 1, none⟩ = some (.int .i64 xw)) w3.drew := ⟨q1, HRY.out, x0, x1⟩
            refine wp_region_held (S := fun w' : World => w'.cell? ⟨bx, 1, none⟩ = some (.slice (some ⟨b0, off, none⟩) m c) ∧ w'.rangeAt b0 (off + j * 32) y.cells ∧ w'.cell? ⟨b0, off + (j + 1) * 32, none⟩ = some (.int .i64 xl) ∧ w'.cell? ⟨b0, off + (j + 1) * 32 + 1, none⟩ = some (.int .i64 xw)) mixed ?_
            refine wpAnyH_take (i := 0) (v := (.int .i64 ((j + 1 : Nat) : Int))) rfl (by kernel_rfl) (by kernel_rfl) (by kernel_rfl) (fun _ _ _ h => h) (Or.inl ⟨by rfl, fun wx hx => by go_simp⟩) hT0 ?_
            try dsimp only
            try simp only [Act.put, List.getElem_toArray, List.getElem_cons_succ, List.getElem_cons_zero, List.setIfInBounds_toArray, List.set_cons_zero, List.set_cons_succ]
            refine wpAnyH_take (i := 1) (v := (.bool true)) rfl (by kernel_rfl) (by kernel_rfl) (by kernel_rfl) (fun _ _ _ h => h) (Or.inl ⟨by rfl, fun wx hx => by go_simp⟩) hT0 ?_
            try dsimp only
            try simp only [Act.put, List.getElem_toArray, List.getElem_cons_succ, List.getElem_cons_zero, List.setIfInBounds_toArray, List.set_cons_zero, List.set_cons_succ]
            refine wpAnyH_take (i := 2) (v := (.bool true)) rfl (by kernel_rfl) (by kernel_rfl) (by kernel_rfl) (fun _ _ _ h => h) (Or.inl ⟨by rfl, fun wx hx => by go_simp⟩) hT0 ?_
            try dsimp only
            try simp only [Act.put, List.getElem_toArray, List.getElem_cons_succ, List.getElem_cons_zero, List.setIfInBounds_toArray, List.set_cons_zero, List.set_cons_succ]
            refine wpAnyH_take (i := 3) (v := (.pointer (some ⟨bx, 1, none⟩))) rfl (by kernel_rfl) (by kernel_rfl) (by kernel_rfl) (fun _ _ _ h => h) (Or.inl ⟨by rfl, fun wx hx => by go_simp⟩) hT0 ?_
            try dsimp only
            try simp only [Act.put, List.getElem_toArray, List.getElem_cons_succ, List.getElem_cons_zero, List.setIfInBounds_toArray, List.set_cons_zero, List.set_cons_succ]
            refine wpAnyH_take (i := 4) (v := (.slice (some ⟨b0, off, none⟩) m c)) rfl (by kernel_rfl) (by kernel_rfl) (by kernel_rfl) (fun _ _ _ h => h) (Or.inl ⟨by rfl, fun wx hx => by have hx1 := hx.1; go_simp⟩) hT0 ?_
            try dsimp only
            try simp only [Act.put, List.getElem_toArray, List.getElem_cons_succ, List.getElem_cons_zero, List.setIfInBounds_toArray, List.set_cons_zero, List.set_cons_succ]
            refine wpAnyH_take (i := 5) (v := (.int .i64 ((j + 1 : Nat) : Int))) rfl (by kernel_rfl) (by kernel_rfl) (by kernel_rfl) (fun _ _ _ h => h) (Or.inl ⟨by rfl, fun wx hx => by go_simp⟩) hT0 ?_
            try dsimp only
            try simp only [Act.put, List.getElem_toArray, List.getElem_cons_succ, List.getElem_cons_zero, List.setIfInBounds_toArray, List.set_cons_zero, List.set_cons_succ]
            refine wpAnyH_take (i := 6) (v := (.int .i64 j)) rfl (by kernel_rfl) (by kernel_rfl) (by kernel_rfl) (fun _ _ _ h => h) (Or.inl ⟨by rfl, fun wx hx => by go_simp⟩) hT0 ?_
            try dsimp only
            try simp only [Act.put, List.getElem_toArray, List.getElem_cons_succ, List.getElem_cons_zero, List.setIfInBounds_toArray, List.set_cons_zero, List.set_cons_succ]
            refine wpAnyH_take (i := 7) (v := (.pointer (some ⟨b0, off + j * 32, none⟩))) rfl (by kernel_rfl) (by kernel_rfl) (by kernel_rfl) (fun _ _ _ h => h) (Or.inl ⟨by rfl, fun wx hx => by go_simp⟩) hT0 ?_
            try dsimp only
            try simp only [Act.put, List.getElem_toArray, List.getElem_cons_succ, List.getElem_cons_zero, List.setIfInBounds_toArray, List.set_cons_zero, List.set_cons_succ]
            refine wpAnyH_take (i := 8) (v := (.agg Y)) rfl (by kernel_rfl) (by kernel_rfl) (by kernel_rfl) (fun _ _ _ h => h) (yieldsIf_load_it_mid (by rfl) _ rfl _ _ rfl Y _ HY.out (fun wx hx => hx.2.1)) hT0 ?_
            try dsimp only
            try simp only [Act.put, List.getElem_toArray, List.getElem_cons_succ, List.getElem_cons_zero, List.setIfInBounds_toArray, List.set_cons_zero, List.set_cons_succ]
            refine wpAnyH_take (i := 9) (v := (.pointer (some ⟨bx, 1, none⟩))) rfl (by kernel_rfl) (by kernel_rfl) (by kernel_rfl) (fun _ _ _ h => h) (Or.inl ⟨by rfl, fun wx hx => by go_simp⟩) hT0 ?_
            try dsimp only
            try simp only [Act.put, List.getElem_toArray, List.getElem_cons_succ, List.getElem_cons_zero, List.setIfInBounds_toArray, List.set_cons_zero, List.set_cons_succ]
            refine wpAnyH_take (i := 10) (v := (.slice (some ⟨b0, off, none⟩) m c)) rfl (by kernel_rfl) (by kernel_rfl) (by kernel_rfl) (fun _ _ _ h => h) (Or.inl ⟨by rfl, fun wx hx => by have hx1 := hx.1; go_simp⟩) hT0 ?_
            try dsimp only
            try simp only [Act.put, List.getElem_toArray, List.getElem_cons_succ, List.getElem_cons_zero, List.setIfInBounds_toArray, List.set_cons_zero, List.set_cons_succ]
            refine wpAnyH_take (i := 11) (v := (.int .i64 ((j + 1 : Nat) : Int))) rfl (by kernel_rfl) (by kernel_rfl) (by kernel_rfl) (fun _ _ _ h => h) (Or.inl ⟨by rfl, fun wx hx => by go_simp⟩) hT0 ?_
            try dsimp only
            try simp only [Act.put, List.getElem_toArray, List.getElem_cons_succ, List.getElem_cons_zero, List.setIfInBounds_toArray, List.set_cons_zero, List.set_cons_succ]
            refine wpAnyH_take (i := 12) (v := (.pointer (some ⟨b0, off + (j + 1) * 32, none⟩))) rfl (by kernel_rfl) (by kernel_rfl) (by kernel_rfl) (fun _ _ _ h => h) (Or.inl ⟨by rfl, fun wx hx => by go_simp⟩) hT0 ?_
            try dsimp only
            try simp only [Act.put, List.getElem_toArray, List.getElem_cons_succ, List.getElem_cons_zero, List.setIfInBounds_toArray, List.set_cons_zero, List.set_cons_succ]
            refine wpAnyH_take (i := 13) (v := (.pointer (some ⟨b0, off + (j + 1) * 32, none⟩))) rfl (by kernel_rfl) (by kernel_rfl) (by kernel_rfl) (fun _ _ _ h => h) (Or.inl ⟨by rfl, fun wx hx => by go_simp⟩) hT0 ?_
            try dsimp only
            try simp only [Act.put, List.getElem_toArray, List.getElem_cons_succ, List.getElem_cons_zero, List.setIfInBounds_toArray, List.set_cons_zero, List.set_cons_succ]
            refine wpAnyH_take (i := 14) (v := (.int .i64 xl)) rfl (by kernel_rfl) (by kernel_rfl) (by kernel_rfl) (fun _ _ _ h => h) (Or.inl ⟨by rfl, fun wx hx => by have hx1 := hx.2.2.1; go_simp⟩) hT0 ?_
            try dsimp only
            try simp only [Act.put, List.getElem_toArray, List.getElem_cons_succ, List.getElem_cons_zero, List.setIfInBounds_toArray, List.set_cons_zero, List.set_cons_succ]
            refine wpAnyH_take (i := 15) (v := (.pointer (some ⟨bx, 1, none⟩))) rfl (by kernel_rfl) (by kernel_rfl) (by kernel_rfl) (fun _ _ _ h => h) (Or.inl ⟨by rfl, fun wx hx => by go_simp⟩) hT0 ?_
            try dsimp only
            try simp only [Act.put, List.getElem_toArray, List.getElem_cons_succ, List.getElem_cons_zero, List.setIfInBounds_toArray, List.set_cons_zero, List.set_cons_succ]
            refine wpAnyH_take (i := 16) (v := (.slice (some ⟨b0, off, none⟩) m c)) rfl (by kernel_rfl) (by kernel_rfl) (by kernel_rfl) (fun _ _ _ h => h) (Or.inl ⟨by rfl, fun wx hx => by have hx1 := hx.1; go_simp⟩) hT0 ?_
            try dsimp only
            try simp only [Act.put, List.getElem_toArray, List.getElem_cons_succ, List.getElem_cons_zero, List.setIfInBounds_toArray, List.set_cons_zero, List.set_cons_succ]
            refine wpAnyH_take (i := 17) (v := (.int .i64 ((j + 1 : Nat) : Int))) rfl (by kernel_rfl) (by kernel_rfl) (by kernel_rfl) (fun _ _ _ h => h) (Or.inl ⟨by rfl, fun wx hx => by go_simp⟩) hT0 ?_
            try dsimp only
            try simp only [Act.put, List.getElem_toArray, List.getElem_cons_succ, List.getElem_cons_zero, List.setIfInBounds_toArray, List.set_cons_zero, List.set_cons_succ]
            refine wpAnyH_take (i := 18) (v := (.pointer (some ⟨b0, off + (j + 1) * 32, none⟩))) rfl (by kernel_rfl) (by kernel_rfl) (by kernel_rfl) (fun _ _ _ h => h) (Or.inl ⟨by rfl, fun wx hx => by go_simp⟩) hT0 ?_
            try dsimp only
            try simp only [Act.put, List.getElem_toArray, List.getElem_cons_succ, List.getElem_cons_zero, List.setIfInBounds_toArray, List.set_cons_zero, List.set_cons_succ]
            refine wpAnyH_take (i := 19) (v := (.pointer (some ⟨b0, off + (j + 1) * 32 + 1, none⟩))) rfl (by kernel_rfl) (by kernel_rfl) (by kernel_rfl) (fun _ _ _ h => h) (Or.inl ⟨by rfl, fun wx hx => by go_simp⟩) hT0 ?_
            try dsimp only
            try simp only [Act.put, List.getElem_toArray, List.getElem_cons_succ, List.getElem_cons_zero, List.setIfInBounds_toArray, List.set_cons_zero, List.set_cons_succ]
            refine wpAnyH_take (i := 20) (v := (.int .i64 xw)) rfl (by kernel_rfl) (by kernel_rfl) (by kernel_rfl) (fun _ _ _ h => h) (Or.inl ⟨by rfl, fun wx hx => by have hx1 := hx.2.2.2; go_simp⟩) hT0 ?_
            try dsimp only
            try simp only [Act.put, List.getElem_toArray, List.getElem_cons_succ, List.getElem_cons_zero, List.setIfInBounds_toArray, List.set_cons_zero, List.set_cons_succ]
            refine wpAnyH_all (rs := [21]) (by kernel_rfl) (by simp) ?_
            intro jj hjj
            simp only [List.mem_cons, List.not_mem_nil, or_false] at hjj
            subst hjj
            refine wpOp_of_wanted rfl (by rfl) ?_
            go_simp
            refine (isAhead_any y Y HY.out xl xw w3.drew).mono ?_
            rintro e w4 ⟨rfl, hb4⟩
            replace hb4 : Below w3.heap.size w3 w4 := below_drawn' hb4
            rw [HAV.out]
            have hT1 : (fun w' : World => w'.cell? ⟨bx, 1, none⟩ = some (.slice (some ⟨b0, off, none⟩) m c) ∧ w'.rangeAt b0 (off + j * 32) y.cells ∧ w'.cell? ⟨b0, off + (j + 1) * 32, none⟩ = some (.int .i64 xl) ∧ w'.cell? ⟨b0, off + (j + 1) * 32 + 1, none⟩ = some (.int .i64 xw)) w4 := ⟨cell_keep hb4 q1, range_below hb4 hbl3 HRY.out, cell_keep hb4 x0, cell_keep hb4 x1⟩
            have HB4 : Hid (Below w.heap.size w w4) := bnext HB3.out hb4
            have G4 : Hid (w4.heap[bx]? = some (.cells #[.int .i64 fr, .slice (some ⟨b0, off, none⟩) m c] 34)) := keep hb4 G3.out
            cases av with
            | true =>
              have HF2 : Hid (fairTo t fr l (j + 1 + 1)) := fun q hq => by
                by_cases e : q = j + 1
                · rw [e]; exact HOA.out
                · exact HF.out q (by omega)
              refine ⟨hT1, ?_⟩
              try dsimp only
              try simp only [Act.put, List.getElem_toArray, List.getElem_cons_succ, List.getElem_cons_zero, List.setIfInBounds_toArray, List.set_cons_zero, List.set_cons_succ]
              refine wpAnyH_take (i := 22) (v := (.bool false)) rfl (by kernel_rfl) (by kernel_rfl) (by kernel_rfl) (fun _ _ _ h => h) (Or.inl ⟨by rfl, fun wx hx => by go_simp⟩) hT1 ?_
              try dsimp only
              try simp only [Act.put, List.getElem_toArray, List.getElem_cons_succ, List.getElem_cons_zero, List.setIfInBounds_toArray, List.set_cons_zero, List.set_cons_succ]
              refine wpAnyH_take (i := 23) (v := (.bool false)) rfl (by kernel_rfl) (by kernel_rfl) (by kernel_rfl) (fun _ _ _ h => h) (Or.inl ⟨by rfl, fun wx hx => by go_simp⟩) hT1 ?_
              try dsimp only
              try simp only [Act.put, List.getElem_toArray, List.getElem_cons_succ, List.getElem_cons_zero, List.setIfInBounds_toArray, List.set_cons_zero, List.set_cons_succ]
              refine wpAnyH_done (by kernel_rfl) ?_ _
              clear hT0 hT1 hb4 q1 x0 x1 ei
              go_wp2
              go_roundw
              case rel => exact ⟨j + 1 + 1, by omega, by go_num, HF2.out, HB4.out, G4.out⟩
              case measure => simp [intOf]; omega
            | false =>
              have HE : Hid (fair t n fr l = false) := fair_bad (j + 1) (by omega) HOA.out
              refine ⟨hT1, ?_⟩
              try dsimp only
              try simp only [Act.put, List.getElem_toArray, List.getElem_cons_succ, List.getElem_cons_zero, List.setIfInBounds_toArray, List.set_cons_zero, List.set_cons_succ]
              refine wpAnyH_take (i := 22) (v := (.bool true)) rfl (by kernel_rfl) (by kernel_rfl) (by kernel_rfl) (fun _ _ _ h => h) (Or.inl ⟨by rfl, fun wx hx => by go_simp⟩) hT1 ?_
              try dsimp only
              try simp only [Act.put, List.getElem_toArray, List.getElem_cons_succ, List.getElem_cons_zero, List.setIfInBounds_toArray, List.set_cons_zero, List.set_cons_succ]
              refine wpAnyH_take (i := 23) (v := (.bool true)) rfl (by kernel_rfl) (by kernel_rfl) (by kernel_rfl) (fun _ _ _ h => h) (Or.inl ⟨by rfl, fun wx hx => by go_simp⟩) hT1 ?_
              try dsimp only
              try simp only [Act.put, List.getElem_toArray, List.getElem_cons_succ, List.getElem_cons_zero, List.setIfInBounds_toArray, List.set_cons_zero, List.set_cons_succ]
              refine wpAnyH_done (by kernel_rfl) ?_ _
              clear hT0 hT1 hb4 q1 x0 x1 ei
              go_wp2
              go_ret
              exact ⟨by rw [HE.out]; rfl, HB4.out⟩
      · obtain rfl : i = m := by omega
        have HE : Hid (fair t n fr l = true) := fair_yes HPR.out.1 HPR.out.2 (by rw [hm]; exact HF.out)
        clear p0
        go_wp2
        go_ret
        exact ⟨by rw [HE.out]; rfl, HB.out⟩
/-- What Deliver has in memory. -/
structure DS (w wr : World) (own : Ghost) (B0 bs bx : Nat) (t : List Int) (wid : Int) (D : List Nd) (k : Nat) (d : Nd) (fr : Int) (p : Option Addr) (m c : Nat) (l : List It) (j : Nat) : Prop where
  rep : Chg SR w own B0 bs t wid (D.set k { d with items := (l.take j).foldl jnd d.items }) wr
  box : wr.heap[bx]? = some (.cells #[.int .i64 fr, .slice p m c] 34)
  rows : RowsAt clIt wr p l
theorem SRep.took {w w' : World} {own : Ghost} {B0 bs : Nat} {t : List Int} {wid : Int} {D : List Nd} {V : Nat → Sl} {A : Array Value} (h : SRep w own B0 bs t wid D V A) (k : Nat) (d : Nd) (hk8 : k < 8) (hx : D[k]? = some d) (hlf : isLf t k = false) (x : It) (s : Sl) (pf : PF w w' bs (10 + k * 2) A 77 (V k).val s.val)
    (hG : Good (jnd d.items x)) (ho : Own clIt w' B0 80 s.val (jnd d.items x)) : Chg SR w own B0 bs t wid (D.set k { d with items := jnd d.items x }) w' := by
  have hkD : k < D.length := (List.getElem?_eq_some_iff.1 hx).1
  have hset : (D.set k { d with items := jnd d.items x })[k]? = some { d with items := jnd d.items x } := List.getElem?_set_self hkD
  have he := h.ev k d hx
  refine h.put k (by omega) s pf ?_ (fun r hr => ?_) (fun r hr hne => ?_) (by simpa using h.ld) (fun i d' hi => ?_)
  · rw [LQ_live t _ k _ hk8 hset]
    unfold lvg
    rw [if_neg (by rw [hlf]; simp)]
    exact ho
  · by_cases e : r = k
    · subst e; rw [MQ_live _ r _ hk8 hset, MQ_live D r d hk8 hx]
    · by_cases e2 : r = 8 + k
      · subst e2; rw [MQ_kept _ k _ hset, MQ_kept D k d hx]
      · exact MQ_set D k _ r e e2
  · by_cases e2 : r = 8 + k
    · subst e2; rw [LQ_kept t _ k _ hset, LQ_kept t D k d hx]; rfl
    · exact LQ_set t D k _ r hne e2
  · by_cases e : k = i
    · subst e
      rw [hset] at hi; cases hi
      exact ⟨he.1, he.2.1, hG, he.2.2.2⟩
    · rw [List.getElem?_set_ne e] at hi; exact h.ev i d' hi
theorem set_back {D : List Nd} {k : Nat} {d : Nd} (hd : D[k]? = some d) : D.set k { d with items := ([] : List It).foldl jnd d.items } = D := by
  obtain ⟨hk', hd'⟩ := List.getElem?_eq_some_iff.1 hd
  apply List.ext_getElem?
  intro i
  rw [List.getElem?_set]
  by_cases e : k = i
  · subst e; rw [if_pos rfl, if_pos hk', hd]; rfl
  · rw [if_neg e]
set_option maxHeartbeats 4000000 in
theorem sDeliver_any (w : World) (own : Ghost) (B0 bs : Nat) (t : List Int) (wid : Int) (D : List Nd) (h : SR w own B0 bs t wid D) (hd : DI D 100000000) (hB0 : B0 ≤ w.heap.size) (n fr : Int) (l : List It) (p : Option Addr) (m c : Nat) (hm : l.length = m) (hr : RowsAt clIt w p l) (hok : AllOkI l) (hml : m ≤ 1000000000) (hp : ∀ b off, p = some ⟨b, off, none⟩ → own b = .arg) :
    Calls Try.prog 9 #[.pointer (some ⟨bs, 0, none⟩), .int .i64 n, .agg #[.int .i64 fr, .slice p m c]] w fun e w' => e = .returned (.int .i64 (delE t n fr l)) ∧ Chg SR w own B0 bs t wid (delD t D n fr l) w' := by
  obtain ⟨V, A, h⟩ := h
  have h8 := h.T.le
  have HS : Hid (SRep w own B0 bs t wid D V A) := h
  have HSAME : Hid (delE t n fr l ≠ 0 → ∀ w', Below w.heap.size w w' → Chg SR w own B0 bs t wid (delD t D n fr l) w') := fun he w' hb => ⟨own, by unfold delD; rw [if_neg he]; exact ⟨V, A, h.below hb⟩, Same.refl _ _, Fr.of_below hb⟩
  have HT : Hid (Tree t) := h.T
  have HRW : Hid (RowsAt clIt w p l) := hr
  obtain ⟨bx, hbx⟩ : ∃ bx, bx = w.heap.size := ⟨_, rfl⟩
  obtain ⟨w1, hw1⟩ : ∃ w1, w1 = w.alloc (.cells #[.int .i64 fr, .slice p m c] 34) := ⟨_, rfl⟩
  have HB1 : Hid (Below w.heap.size w w1) := by unfold Hid; rw [hw1]; exact below_alloc _ _
  have G1 : Hid (w1.heap[bx]? = some (.cells #[.int .i64 fr, .slice p m c] 34)) := by unfold Hid; rw [hw1, hbx]; exact heap_alloc_new _ _
  have HP1 : Hid (PTree w1 bs t) := h.tree.below HB1.out
  have HBX : Hid (bx = w.heap.size) := hbx
  clear hr
  by_cases h1 : isNd t n = true
  · have hn0 : 0 ≤ n := by simp only [isNd, decide_eq_true_eq] at h1; omega
    obtain ⟨fb, hfb⟩ : ∃ fb, fair t n fr l = fb := ⟨_, rfl⟩
    have HFB : Hid (fair t n fr l = fb) := hfb
    cases fb with
    | true =>
      obtain ⟨k, d, rfl, hk, hk8, hx⟩ := h.at n h1
      have HE : Hid (delE t k fr l = 0) := by unfold Hid delE; rw [if_pos h1, if_pos hfb]
      have HD : Hid (delD t D k fr l = D.set k { d with items := l.foldl jnd d.items }) := by unfold Hid delD; rw [if_pos HE.out]; simp [hx]
      have HIN : Hid (AllIn l) := fair_in h8 hfb hok
      have HGD : Hid (Good d.items) := (h.ev k d hx).2.2.1
      have HLF : Hid (isLf t k = false) := by
        have hf := fair_iff.1 hfb
        have hfn := hf.1
        simp only [isNd, decide_eq_true_eq] at hfn
        have hlt : fr.toNat < t.length := by omega
        have h2 := hf.2.1
        unfold Hid isLf
        simp only [decide_eq_false_iff_not, Classical.not_not]
        rw [← h2]
        simp only [List.getD, List.getElem?_eq_getElem hlt, Option.getD_some]
        exact List.getElem_mem _
      obtain ⟨own1, hown1⟩ : ∃ own1 : Ghost, own1 = fun j => if j = bx then .arg else own j := ⟨_, rfl⟩
      have HOW : Hid (∀ j, j ≠ bx → own1 j = own j) := fun j hj => by rw [hown1]; exact if_neg hj
      have HOX : Hid (own1 bx = .arg) := by unfold Hid; rw [hown1]; exact if_pos rfl
      have HSM : Hid (Same w own own1) := fun j hj _ => HOW.out j (by have := HBX.out; omega)
      have HS1 : Hid (SR w1 own1 B0 bs t wid D) := SR_chg (S := fun _ => False) ⟨V, A, h⟩ (Fr.of_below HB1.out) HSM.out fun _ h => h
      have HPA : Hid (∀ b off, p = some ⟨b, off, none⟩ → b < w.heap.size → own1 b = .arg) := fun b off e hb => by rw [HOW.out b (by have := HBX.out; omega)]; exact hp b off e
      have HX : Hid (D[k]? = some d) := hx
      have HDI : Hid (DI D 100000000) := hd
      have hkD : k < D.length := (List.getElem?_eq_some_iff.1 hx).1
      have k0 : (0 : Int) ≤ (k : Int) := by omega
      have k1 : (k : Int) < 8 := by omega
      clear h hok hp hown1 hx hfb HSAME hd
      go_enter Try.func9, Try.ntmps9
      go_upto_region 1 with fail
      rw [← hw1, ← hbx]
      clear hw1 hbx
      go_wp2_with (first | (go_at_call 26; refine (has_any _ _ t HP1.out _).mono ?_; rintro e w2 ⟨rfl, hw2⟩; have hw2 := hw2.symm; subst hw2; rw [h1]) | (refine load_pk rfl _ rfl bx rfl _ _ (by exact G1.out) ?_) | (go_at_call 27; refine (mayCome_any _ _ t HP1.out HT.out _ _ hn0 l _ _ _ hm (HRW.out.below HB1.out) hml).mono ?_; rintro e w2 ⟨rfl, hb2⟩; rw [HFB.out]))
      have HDS : Hid (DS w1 w2 own1 B0 bs bx t wid D k d fr p m c l 0) := ⟨⟨own1, by rw [List.take_zero, set_back HX.out]; exact SR_chg (S := fun _ => False) HS1.out (Fr.of_below hb2) (Same.refl _ _) fun _ h => h, Same.refl _ _, Fr.of_below hb2⟩, keep hb2 G1.out, (HRW.out.below HB1.out).below hb2⟩
      clear hb2
      go_loopw [7] (fun i wr => ∃ j : Nat, j ≤ m ∧ i = .int .i64 j ∧ DS w1 wr own1 B0 bs bx t wid D k d fr p m c l j) (fun i _ => m - (intOf i).toNat)
      case atStart => exact ⟨0, by omega, rfl, HDS.out⟩
      case round =>
        clear HDS
        obtain ⟨j, hj, rfl, ds⟩ := hrel
        have HDJ : Hid (DS w1 wr own1 B0 bs bx t wid D k d fr p m c l j) := ds
        have cb : wr.cell? ⟨bx, 1, none⟩ = some (.slice p m c) := by rw [cell_of_row _ _ _ _ _ _ ds.box]; rfl
        by_cases hlj : j < m
        · obtain ⟨x, hx⟩ : ∃ x, l[j]? = some x := ⟨_, List.getElem?_eq_getElem (by omega)⟩
          obtain ⟨b, off, rfl, hlt, hcx⟩ := ds.rows.pos j (by omega)
          obtain ⟨⟨own2, ⟨V2, A2, S2⟩, sm2, fr2⟩, box, rows⟩ := ds
          obtain ⟨DJ, hDJ⟩ : ∃ DJ, DJ = (l.take j).foldl jnd d.items := ⟨_, rfl⟩
          rw [← hDJ] at S2
          have hset : (D.set k { d with items := DJ })[k]? = some { d with items := DJ } := List.getElem?_set_self hkD
          have hLQ : LQ t (D.set k { d with items := DJ }) k = DJ := by rw [LQ_live t _ k _ hk8 hset]; unfold lvg; rw [if_neg (by rw [HLF.out]; simp)]
          have hGj : Good DJ := by rw [hDJ]; exact HGD.out.dlv (HIN.out.take j)
          have HGJ : Hid (Good (jnd DJ x)) := hGj.jnd (HIN.out x (List.mem_of_getElem? hx))
          have HSR : Hid (Srt DJ) := hGj.srt
          have hlen : DJ.length ≤ 1000 := by have := hGj.len; omega
          have HS2 : Hid (SRep wr own2 B0 bs t wid (D.set k { d with items := DJ }) V2 A2 ∧ Same w1 own1 own2 ∧ Fr own1 isSt w1 wr) := ⟨S2, sm2, fr2⟩
          have HLQ : Hid (LQ t (D.set k { d with items := DJ }) k = DJ) := hLQ
          have HSET : Hid ((D.set k { d with items := DJ })[k]? = some { d with items := DJ }) := hset
          have HDE : Hid (DJ = (l.take j).foldl jnd d.items) := hDJ
          have HBOX : Hid (wr.heap[bx]? = some (.cells #[.int .i64 fr, .slice (some ⟨b, off, none⟩) m c] 34)) := box
          have HROWS : Hid (RowsAt clIt wr (some ⟨b, off, none⟩) l) := rows
          have rg : wr.rangeAt b (off + j * 32) x.cells := hcx j x hx
          have hlne : l ≠ [] := fun e => by rw [e] at hm; simp at hm; omega
          have hbw : b < w.heap.size := by
            rcases HRW.out with e | ⟨b', off', e, hb', _⟩
            · exact absurd e hlne
            · cases e; exact hb'
          have HLX : Hid (l[j]? = some x) := hx
          obtain ⟨X, hX⟩ : ∃ X, IsIt X x := ⟨_, isIt_of x⟩
          have HIX : Hid (IsIt X x) := hX
          have j0 : (0 : Int) ≤ (j : Int) := by omega
          have j1 : (j : Int) < (m : Int) := by omega
          have HSL : Hid (A2[10 + k * 2]? = some (.slice (V2 k).p (V2 k).n (V2 k).c) ∧ A2[10 + k * 2 + 1]? = some (.int .i64 (MQ (D.set k { d with items := DJ }) k)) ∧ Own clIt wr B0 80 (.slice (V2 k).p (V2 k).n (V2 k).c) DJ ∧ (Value.slice (V2 k).p (V2 k).n (V2 k).c).ownBlock ≠ some bs) := ⟨S2.is.sl k (by omega), S2.is.mrk k (by omega), by have := S2.ow k (by omega); rw [hLQ] at this; exact this, S2.ne k (by omega)⟩
          clear S2 sm2 fr2 box rows hset hLQ hGj hDJ hcx hx HDJ hX
          go_upto_region 8 with fail
          have hT0 : (fun w' : World => w'.cell? ⟨bx, 1, none⟩ = some (.slice (some ⟨b, off, none⟩) m c) ∧ w'.rangeAt b (off + j * 32) x.cells) wr.drew := ⟨cb, rg⟩
          refine wp_region_held (S := fun w' : World => w'.cell? ⟨bx, 1, none⟩ = some (.slice (some ⟨b, off, none⟩) m c) ∧ w'.rangeAt b (off + j * 32) x.cells) mixed ?_
          refine wpAnyH_take (i := 0) (v := (.pointer (some ⟨bs, 0, none⟩))) rfl (by kernel_rfl) (by kernel_rfl) (by kernel_rfl) (fun _ _ _ h => h) (Or.inl ⟨by rfl, fun wx hx => by go_simp⟩) hT0 ?_
          try dsimp only
          try simp only [Act.put, List.getElem_toArray, List.getElem_cons_succ, List.getElem_cons_zero, List.setIfInBounds_toArray, List.set_cons_zero, List.set_cons_succ]
          refine wpAnyH_take (i := 1) (v := (.int .i64 k)) rfl (by kernel_rfl) (by kernel_rfl) (by kernel_rfl) (fun _ _ _ h => h) (Or.inl ⟨by rfl, fun wx hx => by go_simp⟩) hT0 ?_
          try dsimp only
          try simp only [Act.put, List.getElem_toArray, List.getElem_cons_succ, List.getElem_cons_zero, List.setIfInBounds_toArray, List.set_cons_zero, List.set_cons_succ]
          refine wpAnyH_take (i := 2) (v := (.pointer (some ⟨bs, 0, none⟩))) rfl (by kernel_rfl) (by kernel_rfl) (by kernel_rfl) (fun _ _ _ h => h) (Or.inl ⟨by rfl, fun wx hx => by go_simp⟩) hT0 ?_
          try dsimp only
          try simp only [Act.put, List.getElem_toArray, List.getElem_cons_succ, List.getElem_cons_zero, List.setIfInBounds_toArray, List.set_cons_zero, List.set_cons_succ]
          refine wpAnyH_take (i := 3) (v := (.pointer (some ⟨bs, 10, none⟩))) rfl (by kernel_rfl) (by kernel_rfl) (by kernel_rfl) (fun _ _ _ h => h) (Or.inl ⟨by rfl, fun wx hx => by go_simp⟩) hT0 ?_
          try dsimp only
          try simp only [Act.put, List.getElem_toArray, List.getElem_cons_succ, List.getElem_cons_zero, List.setIfInBounds_toArray, List.set_cons_zero, List.set_cons_succ]
          refine wpAnyH_take (i := 4) (v := (.pointer (some ⟨bs, 10 + k * 2, none⟩))) rfl (by kernel_rfl) (by kernel_rfl) (by kernel_rfl) (fun _ _ _ h => h) (Or.inl ⟨by rfl, fun wx hx => by go_simp⟩) hT0 ?_
          try dsimp only
          try simp only [Act.put, List.getElem_toArray, List.getElem_cons_succ, List.getElem_cons_zero, List.setIfInBounds_toArray, List.set_cons_zero, List.set_cons_succ]
          refine wpAnyH_take (i := 5) (v := (.pointer (some ⟨bx, 1, none⟩))) rfl (by kernel_rfl) (by kernel_rfl) (by kernel_rfl) (fun _ _ _ h => h) (Or.inl ⟨by rfl, fun wx hx => by go_simp⟩) hT0 ?_
          try dsimp only
          try simp only [Act.put, List.getElem_toArray, List.getElem_cons_succ, List.getElem_cons_zero, List.setIfInBounds_toArray, List.set_cons_zero, List.set_cons_succ]
          refine wpAnyH_take (i := 6) (v := (.slice (some ⟨b, off, none⟩) m c)) rfl (by kernel_rfl) (by kernel_rfl) (by kernel_rfl) (fun _ _ _ h => h) (Or.inl ⟨by rfl, fun wx hx => by have hx1 := hx.1; go_simp⟩) hT0 ?_
          try dsimp only
          try simp only [Act.put, List.getElem_toArray, List.getElem_cons_succ, List.getElem_cons_zero, List.setIfInBounds_toArray, List.set_cons_zero, List.set_cons_succ]
          refine wpAnyH_take (i := 7) (v := (.int .i64 j)) rfl (by kernel_rfl) (by kernel_rfl) (by kernel_rfl) (fun _ _ _ h => h) (Or.inl ⟨by rfl, fun wx hx => by go_simp⟩) hT0 ?_
          try dsimp only
          try simp only [Act.put, List.getElem_toArray, List.getElem_cons_succ, List.getElem_cons_zero, List.setIfInBounds_toArray, List.set_cons_zero, List.set_cons_succ]
          refine wpAnyH_take (i := 8) (v := (.pointer (some ⟨b, off + j * 32, none⟩))) rfl (by kernel_rfl) (by kernel_rfl) (by kernel_rfl) (fun _ _ _ h => h) (Or.inl ⟨by rfl, fun wx hx => by go_simp⟩) hT0 ?_
          try dsimp only
          try simp only [Act.put, List.getElem_toArray, List.getElem_cons_succ, List.getElem_cons_zero, List.setIfInBounds_toArray, List.set_cons_zero, List.set_cons_succ]
          refine wpAnyH_take (i := 9) (v := (.agg X)) rfl (by kernel_rfl) (by kernel_rfl) (by kernel_rfl) (fun _ _ _ h => h) (yieldsIf_load_it_mid (by rfl) _ rfl _ _ rfl X _ HIX.out (fun wx hx => hx.2)) hT0 ?_
          try dsimp only
          try simp only [Act.put, List.getElem_toArray, List.getElem_cons_succ, List.getElem_cons_zero, List.setIfInBounds_toArray, List.set_cons_zero, List.set_cons_succ]
          refine wpAnyH_all (rs := [10]) (by kernel_rfl) (by simp) ?_
          intro jj hjj
          simp only [List.mem_cons, List.not_mem_nil, or_false] at hjj
          subst hjj
          refine wpOp_of_wp rfl rfl ?_
          go_simp
          refine (lTake_any wr.drew B0 bs (10 + k * 2) A2 _ (V2 k).p (V2 k).n (V2 k).c _ DJ x X HIX.out HS2.out.1.main HSL.out.1 HSL.out.2.1 (HSL.out.2.2.1.below below_drew) HSL.out.2.2.2 (Nat.le_trans hB0 (Nat.le_trans HB1.out.size HS2.out.2.2.size)) hlen).mono ?_
          rintro e w6 ⟨rfl, s6, ho6, pf6⟩
          replace pf6 : PF wr w6 bs (10 + k * 2) A2 77 (V2 k).val s6.val := PF.pre below_drew pf6
          rw [← jnd_jin x DJ HSR.out] at ho6
          have ch := HS2.out.1.took k _ hk8 HSET.out HLF.out x s6 pf6 HGJ.out ho6
          have ch1 := Chg.trans HS2.out.2.1 HS2.out.2.2 ch
          obtain ⟨own3, ss3, sm3, fr3⟩ := ch
          have nx : own2 bx ≠ .free ∧ ¬ isSt (own2 bx) := by
            rw [HS2.out.2.1 bx (lt_of_blk G1.out) (by rw [HOX.out]; simp), HOX.out]; exact ⟨by simp, fun ⟨i, e⟩ => by cases e⟩
          have hbw1 : b < w1.heap.size := Nat.lt_of_lt_of_le hbw HB1.out.size
          have hob : own1 b = .arg := HPA.out b off rfl hbw
          have nb : own2 b ≠ .free ∧ ¬ isSt (own2 b) := by
            rw [HS2.out.2.1 b hbw1 (by rw [hob]; simp), hob]; exact ⟨by simp, fun ⟨i, e⟩ => by cases e⟩
          have gx6 : w6.heap[bx]? = some (.cells #[.int .i64 fr, .slice (some ⟨b, off, none⟩) m c] 34) := by rw [fr3.block bx (lt_of_blk HBOX.out) nx.1 nx.2]; exact HBOX.out
          have rw6 : RowsAt clIt w6 (some ⟨b, off, none⟩) l := HROWS.out.chg fr3.size fun b' off' e => by
            cases e; exact fr3.block b (Nat.lt_of_lt_of_le hbw1 HS2.out.2.2.size) nb.1 nb.2
          have hT1 : (fun w' : World => w'.cell? ⟨bx, 1, none⟩ = some (.slice (some ⟨b, off, none⟩) m c) ∧ w'.rangeAt b (off + j * 32) x.cells) w6 := ⟨by rw [cell_of_row _ _ _ _ _ _ gx6]; rfl, fun i u hu => by
            rw [World.cell?_of_block (w := wr) (fr3.block b (Nat.lt_of_lt_of_le hbw1 HS2.out.2.2.size) nb.1 nb.2)]; exact rg i u hu⟩
          refine ⟨hT1, ?_⟩
          try dsimp only
          try simp only [Act.put, List.getElem_toArray, List.getElem_cons_succ, List.getElem_cons_zero, List.setIfInBounds_toArray, List.set_cons_zero, List.set_cons_succ]
          refine wpAnyH_done (by kernel_rfl) ?_ _
          have Z : Hid (DS w1 w6 own1 B0 bs bx t wid D k d fr (some ⟨b, off, none⟩) m c l (j + 1)) := by
            refine ⟨?_, gx6, rw6⟩
            rw [dlv_take l d.items j x HLX.out, ← HDE.out]
            rw [List.set_set] at ch1
            exact ch1
          clear hT0 hT1 ho6 pf6 ch1 ss3 sm3 fr3 gx6 rw6 rg cb nx nb
          go_wp2
          go_roundw
          case rel => exact ⟨j + 1, by omega, by go_num, Z.out⟩
          case measure => simp [intOf]; omega
        · obtain rfl : j = m := by omega
          clear ds
          go_wp2
          go_ret
          obtain ⟨⟨own3, s3, sm3, fr3⟩, _, _⟩ := HDJ.out
          rw [List.take_of_length_le (by omega)] at s3
          refine ⟨by rw [HE.out]; rfl, own3, by rw [HD.out]; exact s3, fun i hi hf => ?_, ?_⟩
          · have e := HSM.out i hi hf
            rw [sm3 i (Nat.lt_of_lt_of_le hi HB1.out.size) (by rw [e]; exact hf), e]
          · exact Fr.trans (Fr.of_below HB1.out) HSM.out fr3
    | false =>
      have HE : Hid (delE t n fr l = 9) := by unfold Hid delE; rw [if_pos h1, if_neg (by rw [hfb]; simp)]
      clear h hok hp hd hfb
      go_enter Try.func9, Try.ntmps9
      go_upto_region 1 with fail
      rw [← hw1, ← hbx]
      clear hw1 hbx
      go_wp2_with (first | (go_at_call 26; refine (has_any _ _ t HP1.out _).mono ?_; rintro e w2 ⟨rfl, hw2⟩; have hw2 := hw2.symm; subst hw2; rw [h1]) | (refine load_pk rfl _ rfl bx rfl _ _ (by exact G1.out) ?_) | (go_at_call 27; refine (mayCome_any _ _ t HP1.out HT.out _ _ hn0 l _ _ _ hm (HRW.out.below HB1.out) hml).mono ?_; rintro e w2 ⟨rfl, hb2⟩; rw [HFB.out]))
      go_ret
      exact ⟨by rw [HE.out]; rfl, HSAME.out (by rw [HE.out]; decide) _ (bnext HB1.out hb2)⟩
  · have h1' : isNd t n = false := by simpa using h1
    have HE : Hid (delE t n fr l = 2) := by unfold Hid delE; rw [if_neg h1]
    clear h hok hp hd
    go_enter Try.func9, Try.ntmps9
    go_upto_region 1 with fail
    rw [← hw1, ← hbx]
    clear hw1 hbx
    go_wp2_with (go_at_call 26; refine (has_any _ _ t HP1.out _).mono ?_; rintro e w2 ⟨rfl, hw2⟩; have hw2 := hw2.symm; subst hw2; rw [h1'])
    go_ret
    exact ⟨by rw [HE.out]; rfl, HSAME.out (by rw [HE.out]; decide) _ HB1.out⟩
end Go.Proofs.Ytpglbakcjihohab

/-! The program's Ask, for every node and windows. -/
namespace Go.Proofs.Ytpglbakcjihohab
open Go.RowKit
set_option maxRecDepth 100000

theorem take_get (L : List It) (j : Nat) (x : It) (h : L[j]? = some x) : L.take (j + 1) = L.take j ++ [x] := by rw [List.take_add_one, h]; rfl
set_option maxHeartbeats 4000000 in
theorem sAsk_any (w : World) (own : Ghost) (B0 bs : Nat) (t : List Int) (wid : Int) (D : List Nd) (h : SR w own B0 bs t wid D) (hd : DI D 100000000) (n low high : Int) :
    Calls Try.prog 32 #[.pointer (some ⟨bs, 0, none⟩), .int .i64 n, .int .i64 low, .int .i64 high] w fun e w' => ∃ A, e = .returned (.tuple #[.agg A, .int .i64 (askErr t n low high)]) ∧ IsAn A (askAn t (lvAt t D n) n low high) ∧ Below w.heap.size w w' := by
  obtain ⟨V, A, h⟩ := h
  have HS : Hid (SRep w own B0 bs t wid D V A) := h
  by_cases h1 : isNd t n = true
  · by_cases h2 : isRg low high = true
    · obtain ⟨k, d, rfl, hk, hk8, hx⟩ := h.at n h1
      have h8 := h.T.le
      have HE : Hid (askErr t k low high = 0) := by unfold Hid askErr; rw [if_pos h1, if_pos h2]
      have HVL : Hid (lvAt t D k = LQ t D k) := by unfold Hid lvAt; rw [if_pos h1, LQ_live t D k d hk8 hx]; simp [hx]
      have hr0 : 0 ≤ low ∧ high < 20 ∧ low ≤ high := by simpa [isRg] using h2
      obtain ⟨hr0, hr1, hr2⟩ := hr0
      have HG : Hid (LgR w bs (10 + k * 2) (V k).p (V k).n (V k).c (MQ D k) (LQ t D k)) := h.lgr hd k (by omega)
      have hgood := h.good hd k
      obtain ⟨L, hL⟩ : ∃ L, L = (LQ t D k).filter (inRg low high) := ⟨_, rfl⟩
      have OKL : Hid (AllOkI L) := allOkI_of fun x hx => by rw [hL] at hx; exact hgood.ok.mem (List.mem_filter.1 hx).1
      have hlen : L.length ≤ 160 := by rw [hL]; exact Nat.le_trans (List.length_filter_le _ _) hgood.len
      have HLL : Hid (L = (LQ t D k).filter (inRg low high)) := hL
      have k0 : (0 : Int) ≤ (k : Int) := by omega
      have k1 : (k : Int) < 8 := by omega
      clear h hgood hx
      go_enter Try.func32, Try.ntmps32
      go_wp2_with (first | (refine alloc_an rfl rfl ?_; intro Z hZ) | (go_at_call 26; refine (has_any _ _ t (HS.out.below (below_alloc _ _)).tree _).mono ?_; rintro e w1 ⟨rfl, rfl⟩; rw [h1]) | (go_at_call 40; refine (areWindows_any _ _ _).mono ?_; rintro e w1 ⟨rfl, rfl⟩; rw [h2]))
      refine (empty_any _).mono ?_
      rintro e w1 ⟨E, rfl, hE, hb1⟩
      go_wp2_with (first | (refine build_an rfl _ rfl ⟨Sk.empty, false, 0⟩ (by refine Eq.trans ?_ (built_an' hE); kernel_rfl) ?_; intro M hM) | (refine alloc_an rfl rfl ?_; intro Z1 hZ1) | (refine store_an_new rfl _ _ rfl M _ _ rfl rfl (by simp) hM (by assumption) ?_))
      have hs1 := hb1.size
      have e9 : (w.alloc (.cells Z 61)).heap.size = w.heap.size + 1 := by simp
      have hga : w.heap.size < w1.heap.size := by omega
      clear e9
      have B1 : Below w.heap.size w (w1.alloc (.cells M 61)) := bnext (bnext (below_alloc _ _) hb1) (below_alloc _ _)
      refine (lItems_any _ bs (10 + k * 2) _ _ _ _ _ (HG.out.below B1) low high).mono ?_
      rintro e w3 ⟨v3, rfl, ho3, hb3⟩
      rw [← HLL.out] at ho3
      obtain ⟨⟨p, m, cp⟩, rfl⟩ : ∃ s : Sl, v3 = .slice s.p s.n s.c := by obtain ⟨p, c, e, _⟩ := ho3.form; exact ⟨⟨p, _, c⟩, e⟩
      have hm : L.length = m := (Own.sl (s := ⟨p, m, cp⟩) ho3).1
      have hr : RowsAt clIt w3 p L := (Own.sl (s := ⟨p, m, cp⟩) ho3).2
      have haw : AW w w3 w1.heap.size Z M p L := by
        refine ⟨bnext B1 hb3, keep hb3 (blk_old (keep hb1 (heap_alloc_new w _))), keep hb3 (heap_alloc_new w1 _), hr, fun b off e eb => ?_⟩
        have := (ho3.lt b (by rw [e]; rfl)).1
        simp at this; omega
      have HZ := hZ.size
      have hM0 : IsAn M ⟨skAll (L.take 0), false, (cnt (L.take 0) : Int)⟩ := by simpa [skAll, cnt] using hM
      have hm160 : m ≤ 160 := by omega
      obtain ⟨ga, hgae⟩ : ∃ ga, ga = w1.heap.size := ⟨_, rfl⟩
      rw [← hgae] at haw hga ⊢
      clear hM hr ho3 hb3 hb1 B1 hgae hs1 hlen hL
      go_wp2
      go_loopw [12] (fun i wr => ∃ (j : Nat) (M : Array Value), j ≤ m ∧ i = .int .i64 j ∧ IsAn M ⟨skAll (L.take j), false, (cnt (L.take j) : Int)⟩ ∧ AW w wr ga Z M p L) (fun i _ => m - (intOf i).toNat)
      case atStart => exact ⟨0, M, by omega, rfl, hM0, haw⟩
      case round =>
        clear hM0 haw
        obtain ⟨j, M, hj, rfl, hM, haw⟩ := hrel
        by_cases hlj : j < m
        · obtain ⟨x, hx⟩ : ∃ x, L[j]? = some x := ⟨_, List.getElem?_eq_getElem (by omega)⟩
          obtain ⟨b, off, rfl, hlt, hcx⟩ := haw.rows.pos j (by omega)
          have rg : wr.rangeAt b (off + j * 32) x.cells := hcx j x hx
          have y3 : wr.cell? ⟨b, off + j * 32 + 3, none⟩ = some (.bool x.fin) := rg 3 _ x.get3
          have rs := x.range_sk rg
          have okx := OKL.out j x hx
          have okS : (skAll (L.take j)).Ok := skAll_ok fun y hy => by
            obtain ⟨i, hi⟩ := List.getElem?_of_mem hy
            rw [List.getElem?_take] at hi
            split at hi
            · exact OKL.out i y hi
            · cases hi
          have ESK : Hid (skAll (L.take (j + 1)) = mrg (skAll (L.take j)) x.sk) := by unfold Hid; rw [take_get L j x hx, skAll_append]
          have ECN : Hid (cnt (L.take (j + 1)) = cnt (L.take j) + (if x.fin = true then 1 else 0)) := by unfold Hid; rw [take_get L j x hx, cnt_append]
          have hcn : cnt (L.take j) ≤ j := Nat.le_trans (cnt_le _) (by simp; omega)
          obtain ⟨cn, hcne⟩ : ∃ cn, cn = cnt (L.take j) := ⟨_, rfl⟩
          rw [← hcne] at hM ECN hcn
          have hbg : b ≠ ga := haw.far b off rfl
          have j0 : (0 : Int) ≤ (j : Int) := by omega
          have j1 : (j : Int) < (m : Int) := by omega
          have HMh : Hid (IsAn M ⟨skAll (L.take j), false, (cn : Int)⟩) := hM
          have HOS : Hid (skAll (L.take j)).Ok := okS
          have HRS : Hid (wr.rangeAt b (off + j * 32 + 4) x.sk.cells.toList) := rs
          have HAW : Hid (AW w wr ga Z M (some ⟨b, off, none⟩) L) := haw
          have HOX : Hid x.Ok := okx
          clear hcne rg hcx hM okS rs haw okx hx
          go_upto_region 10 with fail
          have hM := HMh.out
          have okS := HOS.out
          have rs := HRS.out
          have haw := HAW.out
          have okx := HOX.out
          clear HMh HOS HRS HAW HOX
          have hT0 : (fun w' : World => w'.rangeAt b (off + j * 32 + 4) x.sk.cells.toList) wr.drew := rs
          refine wp_region_held (S := fun w' : World => w'.rangeAt b (off + j * 32 + 4) x.sk.cells.toList) mixed ?_
          obtain ⟨XK, hXK⟩ : ∃ XK, IsSk XK x.sk := ⟨_, rfl⟩
          refine wpAnyH_take (i := 0) (v := (.pointer (some ⟨ga, 0, none⟩))) rfl (by kernel_rfl) (by kernel_rfl) (by kernel_rfl) (fun _ _ _ h => h) (Or.inl ⟨by rfl, fun wx hx => by go_simp⟩) hT0 ?_
          try dsimp only
          try simp only [Act.put, List.getElem_toArray, List.getElem_cons_succ, List.getElem_cons_zero, List.setIfInBounds_toArray, List.set_cons_zero, List.set_cons_succ]
          refine wpAnyH_take (i := 2) (v := (.slice (some ⟨b, off, none⟩) m cp)) rfl (by kernel_rfl) (by kernel_rfl) (by kernel_rfl) (fun _ _ _ h => h) (Or.inl ⟨by rfl, fun wx hx => by go_simp⟩) hT0 ?_
          try dsimp only
          try simp only [Act.put, List.getElem_toArray, List.getElem_cons_succ, List.getElem_cons_zero, List.setIfInBounds_toArray, List.set_cons_zero, List.set_cons_succ]
          refine wpAnyH_take (i := 3) (v := (.int .i64 j)) rfl (by kernel_rfl) (by kernel_rfl) (by kernel_rfl) (fun _ _ _ h => h) (Or.inl ⟨by rfl, fun wx hx => by go_simp⟩) hT0 ?_
          try dsimp only
          try simp only [Act.put, List.getElem_toArray, List.getElem_cons_succ, List.getElem_cons_zero, List.setIfInBounds_toArray, List.set_cons_zero, List.set_cons_succ]
          refine wpAnyH_take (i := 4) (v := (.pointer (some ⟨b, off + j * 32, none⟩))) rfl (by kernel_rfl) (by kernel_rfl) (by kernel_rfl) (fun _ _ _ h => h) (Or.inl ⟨by rfl, fun wx hx => by go_simp⟩) hT0 ?_
          try dsimp only
          try simp only [Act.put, List.getElem_toArray, List.getElem_cons_succ, List.getElem_cons_zero, List.setIfInBounds_toArray, List.set_cons_zero, List.set_cons_succ]
          refine wpAnyH_take (i := 5) (v := (.pointer (some ⟨b, off + j * 32 + 4, none⟩))) rfl (by kernel_rfl) (by kernel_rfl) (by kernel_rfl) (fun _ _ _ h => h) (Or.inl ⟨by rfl, fun wx hx => by go_simp⟩) hT0 ?_
          try dsimp only
          try simp only [Act.put, List.getElem_toArray, List.getElem_cons_succ, List.getElem_cons_zero, List.setIfInBounds_toArray, List.set_cons_zero, List.set_cons_succ]
          refine wpAnyH_take (i := 6) (v := (.agg XK)) rfl (by kernel_rfl) (by kernel_rfl) (by kernel_rfl) (fun _ _ _ h => h) (yieldsIf_load_sk_mid (by rfl) _ rfl _ _ rfl XK _ hXK (fun wx hx => hx)) hT0 ?_
          try dsimp only
          try simp only [Act.put, List.getElem_toArray, List.getElem_cons_succ, List.getElem_cons_zero, List.setIfInBounds_toArray, List.set_cons_zero, List.set_cons_succ]
          refine wpAnyH_all (rs := [1]) (by kernel_rfl) (by simp) ?_
          intro jj hjj
          simp only [List.mem_cons, List.not_mem_nil, or_false] at hjj
          subst hjj
          refine wpOp_of_wp rfl rfl (wp_load_sk_mid _ rfl ga 0 rfl _ (by exact hM.range0 haw.m) ?_)
          intro SK hSK
          refine ⟨hT0, ?_⟩
          try dsimp only
          try simp only [Act.put, List.getElem_toArray, List.getElem_cons_succ, List.getElem_cons_zero, List.setIfInBounds_toArray, List.set_cons_zero, List.set_cons_succ]
          refine wpAnyH_all (rs := [7]) (by kernel_rfl) (by simp) ?_
          intro jj hjj
          simp only [List.mem_cons, List.not_mem_nil, or_false] at hjj
          subst hjj
          refine wpOp_of_wp rfl rfl ?_
          go_simp
          refine (merge_any _ _ SK XK hSK hXK okS okx.sk _).mono ?_
          rintro e wz ⟨R, rfl, hR, hbz⟩
          have hbz' : Below wr.heap.size wr wz := ⟨hbz.os, hbz.tape, hbz.output, hbz.size, hbz.block⟩
          have haz := haw.next hbz'
          have hT1 : (fun w' : World => w'.rangeAt b (off + j * 32 + 4) x.sk.cells.toList) wz := range_below hbz' hlt rs
          refine ⟨hT1, ?_⟩
          try dsimp only
          try simp only [Act.put, List.getElem_toArray, List.getElem_cons_succ, List.getElem_cons_zero, List.setIfInBounds_toArray, List.set_cons_zero, List.set_cons_succ]
          refine wpAnyH_take (i := 8) (v := (.pointer (some ⟨ga, 0, none⟩))) rfl (by kernel_rfl) (by kernel_rfl) (by kernel_rfl) (fun _ _ _ h => h) (Or.inl ⟨by rfl, fun wx hx => by go_simp⟩) hT1 ?_
          try dsimp only
          try simp only [Act.put, List.getElem_toArray, List.getElem_cons_succ, List.getElem_cons_zero, List.setIfInBounds_toArray, List.set_cons_zero, List.set_cons_succ]
          refine wpAnyH_all (rs := [9]) (by kernel_rfl) (by simp) ?_
          intro jj hjj
          simp only [List.mem_cons, List.not_mem_nil, or_false] at hjj
          subst hjj
          refine wpOp_of_wp rfl rfl (wp_store_sk0 _ _ rfl R _ rfl rfl hR haz.m hM ?_)
          intro M2 hM2
          have haw2 := haz.row (M' := M2) hga
          refine ⟨fun i u hu => by rw [World.cell?_of_block (w := wz) (setRow_other wz ga b M2 hbg)]; exact hT1 i u hu, ?_⟩
          try dsimp only
          try simp only [Act.put, List.getElem_toArray, List.getElem_cons_succ, List.getElem_cons_zero, List.setIfInBounds_toArray, List.set_cons_zero, List.set_cons_succ]
          refine wpAnyH_done (by kernel_rfl) ?_ _
          have y3' : (wz.setRow ga M2).cell? ⟨b, off + j * 32 + 3, none⟩ = some (.bool x.fin) := by
            rw [World.cell?_of_block (w := wz) (setRow_other wz ga b M2 hbg)]; exact cell_keep hbz' y3
          have c29 : (wz.setRow ga M2).cell? ⟨ga, 29, none⟩ = some (.int .i64 cn) := by rw [cell_of_row _ _ _ _ _ _ haw2.m]; exact hM2.get29
          have f29 : (wz.setRow ga M2).frozen? ⟨ga, 29, none⟩ = false := frozen_of_row _ _ _ _ _ haw2.m
          obtain ⟨wq, hwq⟩ : ∃ wq, wq = wz.setRow ga M2 := ⟨_, rfl⟩
          rw [← hwq] at haw2 y3' c29 f29 ⊢
          have ec : IntKind.i64.wrap ((cn : Int) + 1) = (cn : Int) + 1 := IntWalk.i64_in _ ⟨by omega, by omega⟩
          have HM2h : Hid (IsAn M2 ⟨mrg (skAll (L.take j)) x.sk, false, (cn : Int)⟩) := hM2
          have HAW2 : Hid (AW w wq ga Z M2 (some ⟨b, off, none⟩) L) := haw2
          clear hwq y3 rs hbz' hbz hT0 hT1 haz hM okS haw okx
          obtain ⟨fb, hfb⟩ : ∃ fb, x.fin = fb := ⟨_, rfl⟩
          rw [hfb] at ECN y3'
          cases fb with
          | true =>
            have HM3 := HM2h.out.setClosed ((cn : Int) + 1)
            have HA3 := HAW2.out.cell hga 29 (.int .i64 ((cn : Int) + 1))
            have HM3' : Hid _ := HM3
            have HA3' : Hid _ := HA3
            clear HM3 HA3 hM2 haw2
            go_wp2
            go_roundw
            case rel => exact ⟨j + 1, _, by omega, by go_num, by rw [ESK.out, ECN.out]; exact HM3'.out, HA3'.out⟩
            case measure => simp [intOf]; omega
          | false =>
            clear c29 f29 hM2 haw2
            go_wp2
            go_roundw
            case rel => exact ⟨j + 1, _, by omega, by go_num, by rw [ESK.out, ECN.out]; exact HM2h.out, HAW2.out⟩
            case measure => simp [intOf]; omega
        · obtain rfl : j = m := by omega
          have et : L.take j = L := List.take_of_length_le (by omega)
          rw [et] at hM
          have hcn : cnt L ≤ 160 := Nat.le_trans (cnt_le _) (by omega)
          have HAN : Hid (askAn t (lvAt t D k) k low high = ⟨skAll L, decide ((cnt L : Int) = (lvU t k t.length : Int) * (high - low + 1)), cnt L⟩) := by unfold Hid askAn; rw [if_pos HE.out, HVL.out, ← HLL.out]
          obtain ⟨cn, hcne⟩ : ∃ cn, cn = cnt L := ⟨_, rfl⟩
          rw [← hcne] at hM hcn HAN
          obtain ⟨u, hu⟩ : ∃ u, u = lvU t k t.length := ⟨_, rfl⟩
          have hu8 : u ≤ 8 := by rw [hu]; exact Nat.le_trans (lvU_le t k t.length) h8
          have HU : Hid (u = lvU t k t.length) := hu
          rw [← hu] at HAN
          obtain ⟨P, hP⟩ : ∃ P, P = (u : Int) * (high - low + 1) := ⟨_, rfl⟩
          have hPb : 0 ≤ P ∧ P ≤ 160 := by
            have a1 : (u : Int) * (high - low + 1) ≤ 8 * (high - low + 1) := Int.mul_le_mul_of_nonneg_right (by omega) (by omega)
            have a2 : 0 ≤ (u : Int) * (high - low + 1) := Int.mul_nonneg (by omega) (by omega)
            omega
          rw [← hP] at HAN
          have e1 : IntKind.i64.wrap (high - low) = high - low := IntWalk.i64_in _ ⟨by omega, by omega⟩
          have e2 : IntKind.i64.wrap (high - low + 1) = high - low + 1 := IntWalk.i64_in _ ⟨by omega, by omega⟩
          have e3 : IntKind.i64.wrap ((u : Int) * (high - low + 1)) = P := by rw [← hP]; exact IntWalk.i64_in _ ⟨by omega, by omega⟩
          have c29 : wr.cell? ⟨ga, 29, none⟩ = some (.int .i64 cn) := by rw [cell_of_row _ _ _ _ _ _ haw.m]; exact hM.get29
          have c28 : wr.cell? ⟨ga, 28, none⟩ = some (.bool false) := by rw [cell_of_row _ _ _ _ _ _ haw.m]; exact hM.get28
          have f28 : wr.frozen? ⟨ga, 28, none⟩ = false := frozen_of_row _ _ _ _ _ haw.m
          have HM : Hid (IsAn M ⟨skAll L, false, (cn : Int)⟩) := hM
          have HAW : Hid (AW w wr ga Z M p L) := haw
          have HTR : Hid (PTree wr bs t) := (HS.out.below haw.below).tree
          have HTT : Hid (Tree t) := HS.out.T
          clear et hM haw hcne hu hP
          go_upto_region 13 with fail
          obtain ⟨b, hb⟩ : ∃ b, decide ((cn : Int) = P) = b := ⟨_, rfl⟩
          have hbe : ((cn : Int) == P) = b := by rw [← hb]; by_cases e : (cn : Int) = P <;> simp [e]
          have HANb : Hid (askAn t (lvAt t D k) k low high = ⟨skAll L, b, (cn : Int)⟩) := by unfold Hid; rw [HAN.out, hb]
          have hT0 : (fun w' : World => w'.cell? ⟨ga, 29, none⟩ = some (.int .i64 cn)) wr.drew := c29
          refine wp_region_held (S := fun w' : World => w'.cell? ⟨ga, 29, none⟩ = some (.int .i64 cn)) mixed ?_
          refine wpAnyH_take (i := 0) (v := (.pointer (some ⟨ga, 29, none⟩))) rfl (by kernel_rfl) (by kernel_rfl) (by kernel_rfl) (fun _ _ _ h => h) (Or.inl ⟨by rfl, fun wx hx => by go_simp⟩) hT0 ?_
          try dsimp only
          try simp only [Act.put, List.getElem_toArray, List.getElem_cons_succ, List.getElem_cons_zero, List.setIfInBounds_toArray, List.set_cons_zero, List.set_cons_succ]
          refine wpAnyH_take (i := 1) (v := (.int .i64 cn)) rfl (by kernel_rfl) (by kernel_rfl) (by kernel_rfl) (fun _ _ _ h => h) (Or.inl ⟨by rfl, fun wx hx => by have hx1 := hx; go_simp⟩) hT0 ?_
          try dsimp only
          try simp only [Act.put, List.getElem_toArray, List.getElem_cons_succ, List.getElem_cons_zero, List.setIfInBounds_toArray, List.set_cons_zero, List.set_cons_succ]
          refine wpAnyH_take (i := 2) (v := (.pointer (some ⟨bs, 0, none⟩))) rfl (by kernel_rfl) (by kernel_rfl) (by kernel_rfl) (fun _ _ _ h => h) (Or.inl ⟨by rfl, fun wx hx => by go_simp⟩) hT0 ?_
          try dsimp only
          try simp only [Act.put, List.getElem_toArray, List.getElem_cons_succ, List.getElem_cons_zero, List.setIfInBounds_toArray, List.set_cons_zero, List.set_cons_succ]
          refine wpAnyH_take (i := 3) (v := (.pointer (some ⟨bs, 0, none⟩))) rfl (by kernel_rfl) (by kernel_rfl) (by kernel_rfl) (fun _ _ _ h => h) (Or.inl ⟨by rfl, fun wx hx => by go_simp⟩) hT0 ?_
          try dsimp only
          try simp only [Act.put, List.getElem_toArray, List.getElem_cons_succ, List.getElem_cons_zero, List.setIfInBounds_toArray, List.set_cons_zero, List.set_cons_succ]
          refine wpAnyH_take (i := 4) (v := (.pointer (some ⟨bs, 0, none⟩))) rfl (by kernel_rfl) (by kernel_rfl) (by kernel_rfl) (fun _ _ _ h => h) (Or.inl ⟨by rfl, fun wx hx => by go_simp⟩) hT0 ?_
          try dsimp only
          try simp only [Act.put, List.getElem_toArray, List.getElem_cons_succ, List.getElem_cons_zero, List.setIfInBounds_toArray, List.set_cons_zero, List.set_cons_succ]
          refine wpAnyH_take (i := 5) (v := (.int .i64 k)) rfl (by kernel_rfl) (by kernel_rfl) (by kernel_rfl) (fun _ _ _ h => h) (Or.inl ⟨by rfl, fun wx hx => by go_simp⟩) hT0 ?_
          try dsimp only
          try simp only [Act.put, List.getElem_toArray, List.getElem_cons_succ, List.getElem_cons_zero, List.setIfInBounds_toArray, List.set_cons_zero, List.set_cons_succ]
          refine wpAnyH_take (i := 7) (v := (.int .i64 high)) rfl (by kernel_rfl) (by kernel_rfl) (by kernel_rfl) (fun _ _ _ h => h) (Or.inl ⟨by rfl, fun wx hx => by go_simp⟩) hT0 ?_
          try dsimp only
          try simp only [Act.put, List.getElem_toArray, List.getElem_cons_succ, List.getElem_cons_zero, List.setIfInBounds_toArray, List.set_cons_zero, List.set_cons_succ]
          refine wpAnyH_take (i := 8) (v := (.int .i64 low)) rfl (by kernel_rfl) (by kernel_rfl) (by kernel_rfl) (fun _ _ _ h => h) (Or.inl ⟨by rfl, fun wx hx => by go_simp⟩) hT0 ?_
          try dsimp only
          try simp only [Act.put, List.getElem_toArray, List.getElem_cons_succ, List.getElem_cons_zero, List.setIfInBounds_toArray, List.set_cons_zero, List.set_cons_succ]
          refine wpAnyH_take (i := 9) (v := (.int .i64 (high - low))) rfl (by kernel_rfl) (by kernel_rfl) (by kernel_rfl) (fun _ _ _ h => h) (Or.inl ⟨by rfl, fun wx hx => by go_simp⟩) hT0 ?_
          try dsimp only
          try simp only [Act.put, List.getElem_toArray, List.getElem_cons_succ, List.getElem_cons_zero, List.setIfInBounds_toArray, List.set_cons_zero, List.set_cons_succ]
          refine wpAnyH_take (i := 10) (v := (.int .i64 (high - low + 1))) rfl (by kernel_rfl) (by kernel_rfl) (by kernel_rfl) (fun _ _ _ h => h) (Or.inl ⟨by rfl, fun wx hx => by go_simp⟩) hT0 ?_
          try dsimp only
          try simp only [Act.put, List.getElem_toArray, List.getElem_cons_succ, List.getElem_cons_zero, List.setIfInBounds_toArray, List.set_cons_zero, List.set_cons_succ]
          refine wpAnyH_all (rs := [6]) (by kernel_rfl) (by simp) ?_
          intro jj hjj
          simp only [List.mem_cons, List.not_mem_nil, or_false] at hjj
          subst hjj
          refine wpOp_of_wp rfl rfl ?_
          go_simp
          refine (sLeavesUnder_any wr.drew bs t ⟨HTR.out.len, HTR.out.up⟩ HTT.out k).mono ?_
          rintro e wz ⟨rfl, hwz⟩
          subst hwz
          rw [← HU.out]
          refine ⟨hT0, ?_⟩
          try dsimp only
          try simp only [Act.put, List.getElem_toArray, List.getElem_cons_succ, List.getElem_cons_zero, List.setIfInBounds_toArray, List.set_cons_zero, List.set_cons_succ]
          refine wpAnyH_take (i := 11) (v := (.int .i64 P)) rfl (by kernel_rfl) (by kernel_rfl) (by kernel_rfl) (fun _ _ _ h => h) (Or.inl ⟨by rfl, fun wx hx => by go_simp⟩) hT0 ?_
          try dsimp only
          try simp only [Act.put, List.getElem_toArray, List.getElem_cons_succ, List.getElem_cons_zero, List.setIfInBounds_toArray, List.set_cons_zero, List.set_cons_succ]
          refine wpAnyH_take (i := 12) (v := (.bool b)) rfl (by kernel_rfl) (by kernel_rfl) (by kernel_rfl) (fun _ _ _ h => h) (Or.inl ⟨by rfl, fun wx hx => by go_simp⟩) hT0 ?_
          try dsimp only
          try simp only [Act.put, List.getElem_toArray, List.getElem_cons_succ, List.getElem_cons_zero, List.setIfInBounds_toArray, List.set_cons_zero, List.set_cons_succ]
          refine wpAnyH_take (i := 13) (v := (.pointer (some ⟨ga, 28, none⟩))) rfl (by kernel_rfl) (by kernel_rfl) (by kernel_rfl) (fun _ _ _ h => h) (Or.inl ⟨by rfl, fun wx hx => by go_simp⟩) hT0 ?_
          try dsimp only
          try simp only [Act.put, List.getElem_toArray, List.getElem_cons_succ, List.getElem_cons_zero, List.setIfInBounds_toArray, List.set_cons_zero, List.set_cons_succ]
          refine wpAnyH_all (rs := [14]) (by kernel_rfl) (by simp) ?_
          intro jj hjj
          simp only [List.mem_cons, List.not_mem_nil, or_false] at hjj
          subst hjj
          have HM1 : Hid (IsAn (M.setIfInBounds 28 (.bool b)) ⟨skAll L, b, (cn : Int)⟩) := HM.out.setSealed b
          have HA2 : Hid (AW w (wr.setCell ⟨ga, 28, none⟩ (.bool b)) ga Z (M.setIfInBounds 28 (.bool b)) p L) := HAW.out.cell hga 28 (.bool b)
          have hT1 : (wr.setCell ⟨ga, 28, none⟩ (.bool b)).cell? ⟨ga, 29, none⟩ = some (.int .i64 cn) := by rw [cell_of_row _ _ _ _ _ _ HA2.out.m]; exact HM1.out.get29
          refine wpOp_of_wp rfl rfl (hideK ?_)
          intro K' hK'
          go_simp
          rw [hK'.out]
          refine ⟨hT1, ?_⟩
          try dsimp only
          try simp only [Act.put, List.getElem_toArray, List.getElem_cons_succ, List.getElem_cons_zero, List.setIfInBounds_toArray, List.set_cons_zero, List.set_cons_succ]
          refine wpAnyH_done (by kernel_rfl) ?_ _
          have HA3 : Hid (AW w (wr.setCell ⟨ga, 28, none⟩ (.bool b)).drew ga Z (M.setIfInBounds 28 (.bool b)) p L) := ⟨below_drawn HA2.out.below _, HA2.out.z, HA2.out.m, HA2.out.rows, HA2.out.far⟩
          obtain ⟨wq, hwq⟩ : ∃ wq, wq = (wr.setCell ⟨ga, 28, none⟩ (.bool b)).drew := ⟨_, rfl⟩
          obtain ⟨M1, hM1⟩ : ∃ M1, M1 = M.setIfInBounds 28 (.bool b) := ⟨_, rfl⟩
          rw [← hwq, ← hM1] at HA3
          rw [← hM1] at HM1
          rw [← hwq]
          clear hwq hM1 hT0 hT1 HA2 c29 c28 f28
          go_wp2_with (first | (refine load_an rfl _ rfl _ rfl _ _ HM1.out (by exact HA3.out.m) ?_) | (refine store_an rfl _ _ rfl _ _ rfl rfl HM1.out (by exact HA3.out.z) HZ ?_))
          exact bodyPost_ret (results_an rfl _ _ _ _ _ HM1.out rfl (setRow_blk HA3.out.z)) rfl ⟨_, by rw [HE.out]; rfl, by rw [HANb.out]; exact HM1.out, below_setRow _ HA3.out.below (Nat.le_refl _)⟩
    · have h2' : isRg low high = false := by simpa using h2
      have HE : Hid (askErr t n low high = 8) := by unfold Hid askErr; rw [if_pos h1, if_neg h2]
      have HAN : Hid (askAn t (lvAt t D n) n low high = An.zero) := by unfold Hid askAn; rw [if_neg (by rw [HE.out]; decide)]
      clear h
      go_enter Try.func32, Try.ntmps32
      go_wp2_with (first | (refine alloc_an rfl rfl ?_; intro Z hZ) | (go_at_call 26; refine (has_any _ _ t (HS.out.below (below_alloc _ _)).tree _).mono ?_; rintro e w1 ⟨rfl, rfl⟩; rw [h1]) | (go_at_call 40; refine (areWindows_any _ _ _).mono ?_; rintro e w1 ⟨rfl, rfl⟩; rw [h2']) | (refine build_an rfl _ rfl An.zero (by kernel_rfl) ?_; intro M hM) | (refine store_an_new rfl _ _ rfl M _ _ rfl rfl (by simp) hM (by assumption) ?_))
      exact bodyPost_ret (results_an rfl _ _ _ M _ hM rfl (heap_alloc_new _ _)) rfl ⟨M, by rw [HE.out]; rfl, by rw [HAN.out]; exact hM, below_alloc _ _⟩
  · have h1' : isNd t n = false := by simpa using h1
    have HE : Hid (askErr t n low high = 2) := by unfold Hid askErr; rw [if_neg h1]
    have HAN : Hid (askAn t (lvAt t D n) n low high = An.zero) := by unfold Hid askAn; rw [if_neg (by rw [HE.out]; decide)]
    clear h
    go_enter Try.func32, Try.ntmps32
    go_wp2_with (first | (refine alloc_an rfl rfl ?_; intro Z hZ) | (go_at_call 26; refine (has_any _ _ t (HS.out.below (below_alloc _ _)).tree _).mono ?_; rintro e w1 ⟨rfl, rfl⟩; rw [h1']) | (refine build_an rfl _ rfl An.zero (by kernel_rfl) ?_; intro M hM) | (refine store_an_new rfl _ _ rfl M _ _ rfl rfl (by simp) hM (by assumption) ?_))
    exact bodyPost_ret (results_an rfl _ _ _ M _ hM rfl (heap_alloc_new _ _)) rfl ⟨M, by rw [HE.out]; rfl, by rw [HAN.out]; exact hM, below_alloc _ _⟩
end Go.Proofs.Ytpglbakcjihohab
