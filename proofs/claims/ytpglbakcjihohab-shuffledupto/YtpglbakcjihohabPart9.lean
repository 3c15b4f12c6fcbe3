/-
  Own texts, laid together: A look at all nodes; lists held against one another. Two lists of items, and two looks, held against one another. A sketch that comes in as an argument is twenty-eight cells, each a number that fits its kind. A list of numbers and a script of plain steps that come in as arguments, opened: their cells in memory, and that all of them fit. A store is opened; a run's first state. A run begins. The statements that play plain steps: the walk of a script; Exact. A round: every node is stored and sends all to the node above, the root first. A script that is played; a run whose beginnings are pinned; numbers that are none of a range. To take what is newer is nothing to order and repetition; what a node has stored (no program is named here). Two stores beside one another: what one does is nothing to the other.
-/
import Derived.Test.YtpglbakcjihohabRows
import Derived.ProofKit
import Derived.OpenShut
import Derived.Deep.Slices
import Derived.Test.YtpglbakcjihohabPart8
set_option linter.unusedSimpArgs false
set_option linter.unusedVariables false
set_option linter.deprecated false
/-! A look at all nodes; lists held against one another. -/
namespace Go.Proofs.Ytpglbakcjihohab
open Go.RowKit
set_option maxRecDepth 100000

def lkM (t : List Int) (D : List Nd) (k : Nat) : List Int := (List.range k).map fun j : Nat => wmAt t D j
def lkA (t : List Int) (D : List Nd) (k : Nat) : List An := (List.range k).map fun j : Nat => askAn t (lvAt t D j) j 0 19
def lkI (t : List Int) (D : List Nd) (k : Nat) : List (List It) := (List.range k).map fun j : Nat => lvAt t D j
theorem lkM_succ (t : List Int) (D : List Nd) (k : Nat) : lkM t D (k + 1) = lkM t D k ++ [wmAt t D k] := by simp [lkM, List.range_succ]
theorem lkA_succ (t : List Int) (D : List Nd) (k : Nat) : lkA t D (k + 1) = lkA t D k ++ [askAn t (lvAt t D k) k 0 19] := by simp [lkA, List.range_succ]
theorem lkI_succ (t : List Int) (D : List Nd) (k : Nat) : lkI t D (k + 1) = lkI t D k ++ [lvAt t D k] := by simp [lkI, List.range_succ]
theorem lkM_len (t : List Int) (D : List Nd) (k : Nat) : (lkM t D k).length = k := by simp [lkM]
theorem lkA_len (t : List Int) (D : List Nd) (k : Nat) : (lkA t D k).length = k := by simp [lkA]
theorem lkI_len (t : List Int) (D : List Nd) (k : Nat) : (lkI t D k).length = k := by simp [lkI]
theorem lkM_at (t : List Int) (D : List Nd) {k j : Nat} (h : j < k) : (lkM t D k)[j]? = some (wmAt t D j) := by simp [lkM, h]
theorem lkA_at (t : List Int) (D : List Nd) {k j : Nat} (h : j < k) : (lkA t D k)[j]? = some (askAn t (lvAt t D j) j 0 19) := by simp [lkA, h]
theorem lkI_at (t : List Int) (D : List Nd) {k j : Nat} (h : j < k) : (lkI t D k)[j]? = some (lvAt t D j) := by simp [lkI, h]
def Pin (w : World) (own : Ghost) (p : Option Addr) : Prop := ∀ b off, p = some ⟨b, off, none⟩ → b < w.heap.size ∧ own b = .arg
/-- A look in memory; all of it lies apart. -/
structure LkAt (w : World) (own : Ghost) (t : List Int) (D : List Nd) (vi vm va : Sl) (S : List Sl) : Prop where
  ni : vi.n = t.length
  nm : vm.n = t.length
  na : va.n = t.length
  ls : S.length = t.length
  ri : RowsAt clSl w vi.p S
  rm : RowsAt clInt w vm.p (lkM t D t.length)
  ra : RowsAt clAn w va.p (lkA t D t.length)
  it : ∀ (j : Nat) (s : Sl), S[j]? = some s → (lvAt t D j).length = s.n ∧ RowsAt clIt w s.p (lvAt t D j)
  pi : Pin w own vi.p
  pm : Pin w own vm.p
  pa : Pin w own va.p
  ps : ∀ (j : Nat) (s : Sl), S[j]? = some s → Pin w own s.p
theorem LkAt.chg {w w' : World} {own own' : Ghost} {t : List Int} {D : List Nd} {vi vm va : Sl} {S : List Sl} (h : LkAt w own t D vi vm va S) {F : Tag → Prop} (f : Fr own F w w') (s : Same w own own') (hF : ¬ F .arg) : LkAt w' own' t D vi vm va S := by
  have e : ∀ p, Pin w own p → ∀ b off, p = some ⟨b, off, none⟩ → w'.heap[b]? = w.heap[b]? := fun p hp b off he => by
    obtain ⟨h1, h2⟩ := hp b off he
    exact f.block b h1 (by rw [h2]; simp) (by rw [h2]; exact hF)
  have p' : ∀ p, Pin w own p → Pin w' own' p := fun p hp b off he => by
    obtain ⟨h1, h2⟩ := hp b off he
    exact ⟨Nat.lt_of_lt_of_le h1 f.size, by rw [s b h1 (by rw [h2]; simp)]; exact h2⟩
  exact ⟨h.ni, h.nm, h.na, h.ls, h.ri.chg f.size (e _ h.pi), h.rm.chg f.size (e _ h.pm), h.ra.chg f.size (e _ h.pa), fun j s hs => ⟨(h.it j s hs).1, (h.it j s hs).2.chg f.size (e _ (h.ps j s hs))⟩, p' _ h.pi, p' _ h.pm, p' _ h.pa, fun j s hs => p' _ (h.ps j s hs)⟩
theorem LkAt.below {w w' : World} {own : Ghost} {t : List Int} {D : List Nd} {vi vm va : Sl} {S : List Sl} (h : LkAt w own t D vi vm va S) (hb : Below w.heap.size w w') : LkAt w' own t D vi vm va S := h.chg (F := fun _ => False) (Fr.of_below hb) (Same.refl _ _) (fun h => h)
theorem LkD.at {w wr : World} {og : Ghost} {t : List Int} {D : List Nd} {vi vm va : Sl} {S : List Sl} (h : LkD w wr og vi vm va S (lkM t D t.length) (lkA t D t.length) (lkI t D t.length)) {w' : World} (hb : Below wr.heap.size wr w' ∨ ∃ A, w' = wr.setRow w.heap.size A) {own' : Ghost} (ho : ∀ k, w.heap.size ≤ k → own' k = .arg) : LkAt w' own' t D vi vm va S := by
  have hls : S.length = t.length := by rw [h.ls, lkI_len]
  have base : LkAt wr own' t D vi vm va S ∧ (∀ p b off, (p = vi.p ∨ p = vm.p ∨ p = va.p ∨ ∃ (j : Nat) (s : Sl), S[j]? = some s ∧ p = s.p) → p = some ⟨b, off, none⟩ → b ≠ w.heap.size) := by
    have q1 := Own.sl (s := vi) h.oi
    have q2 := Own.sl (s := vm) h.om
    have q3 := Own.sl (s := va) h.oa
    have b1 : ∀ b off, vi.p = some ⟨b, off, none⟩ → vi.val.ownBlock = some b := fun b off e => by show (Value.slice vi.p vi.n vi.c).ownBlock = _; rw [e]; rfl
    have b2 : ∀ b off, vm.p = some ⟨b, off, none⟩ → vm.val.ownBlock = some b := fun b off e => by show (Value.slice vm.p vm.n vm.c).ownBlock = _; rw [e]; rfl
    have b3 : ∀ b off, va.p = some ⟨b, off, none⟩ → va.val.ownBlock = some b := fun b off e => by show (Value.slice va.p va.n va.c).ownBlock = _; rw [e]; rfl
    have it' : ∀ (j : Nat) (s : Sl), S[j]? = some s → (lvAt t D j).length = s.n ∧ RowsAt clIt wr s.p (lvAt t D j) ∧ ∀ b off, s.p = some ⟨b, off, none⟩ → w.heap.size ≤ b ∧ b < wr.heap.size ∧ og b = .ldI := fun j s hs => h.it j s _ hs (lkI_at t D (by rw [← hls]; exact (List.getElem?_eq_some_iff.1 hs).1))
    refine ⟨⟨by rw [← q1.1]; exact hls, by rw [← q2.1]; exact lkM_len _ _ _, by rw [← q3.1]; exact lkA_len _ _ _, hls, q1.2, q2.2, q3.2, fun j s hs => ⟨(it' j s hs).1, (it' j s hs).2.1⟩, fun b off e => ?_, fun b off e => ?_, fun b off e => ?_, fun j s hs b off e => ?_⟩, ?_⟩
    · have := h.oi.lt b (b1 b off e); exact ⟨this.2, ho b this.1⟩
    · have := h.om.lt b (b2 b off e); exact ⟨this.2, ho b this.1⟩
    · have := h.oa.lt b (b3 b off e); exact ⟨this.2, ho b this.1⟩
    · have := (it' j s hs).2.2 b off e; exact ⟨this.2.1, ho b this.1⟩
    · rintro p b off (rfl | rfl | rfl | ⟨j, s, hs, rfl⟩) e eb
      · have := h.ti b (b1 b off e); rw [eb, h.gr] at this; simp at this
      · have := h.tm b (b2 b off e); rw [eb, h.gr] at this; simp at this
      · have := h.ta b (b3 b off e); rw [eb, h.gr] at this; simp at this
      · have := ((it' j s hs).2.2 b off e).2.2; rw [eb, h.gr] at this; simp at this
  obtain ⟨base, far⟩ := base
  rcases hb with hb | ⟨A, rfl⟩
  · exact base.below hb
  · have e : ∀ p, (p = vi.p ∨ p = vm.p ∨ p = va.p ∨ ∃ (j : Nat) (s : Sl), S[j]? = some s ∧ p = s.p) → ∀ b off, p = some ⟨b, off, none⟩ → (wr.setRow w.heap.size A).heap[b]? = wr.heap[b]? := fun p hp b off he => setRow_other _ _ _ _ (far p b off hp he)
    have hz : wr.heap.size ≤ (wr.setRow w.heap.size A).heap.size := by simp
    have p' : ∀ p, Pin wr own' p → Pin (wr.setRow w.heap.size A) own' p := fun p hp b off he => ⟨Nat.lt_of_lt_of_le (hp b off he).1 hz, (hp b off he).2⟩
    exact ⟨base.ni, base.nm, base.na, base.ls, base.ri.chg hz (e _ (.inl rfl)), base.rm.chg hz (e _ (.inr (.inl rfl))), base.ra.chg hz (e _ (.inr (.inr (.inl rfl)))), fun j s hs => ⟨(base.it j s hs).1, (base.it j s hs).2.chg hz (e _ (.inr (.inr (.inr ⟨j, s, hs, rfl⟩))))⟩, p' _ base.pi, p' _ base.pm, p' _ base.pa, fun j s hs => p' _ (base.ps j s hs)⟩
theorem lkD_start (w : World) : LkD w ((w.alloc (.cells #[.slice none 0 0, .slice none 0 0, .slice none 0 0, .bool false] 46)).alloc (.cells #[.slice none 0 0, .slice none 0 0, .slice none 0 0, .bool true] 46)) (fun k => if k = w.heap.size then .ld else if k = w.heap.size + 1 then .gm else .free) ⟨none, 0, 0⟩ ⟨none, 0, 0⟩ ⟨none, 0, 0⟩ [] [] [] [] := by
  have h1 := heap_alloc_new (w.alloc (.cells #[.slice none 0 0, .slice none 0 0, .slice none 0 0, .bool false] 46)) (.cells #[.slice none 0 0, .slice none 0 0, .slice none 0 0, .bool true] 46)
  rw [show (w.alloc (.cells #[.slice none 0 0, .slice none 0 0, .slice none 0 0, .bool false] 46)).heap.size = w.heap.size + 1 by simp] at h1
  exact ⟨bnext (below_alloc _ _) (below_alloc _ _), h1, by simp, blk_old (heap_alloc_new w _), by simp, Own.nil _ _ _, fun k hk => (by cases hk), Own.nil _ _ _, fun k hk => (by cases hk), Own.nil _ _ _, fun k hk => (by cases hk), rfl, fun j s x hs => by simp at hs⟩
theorem LkD.again {w wr : World} {og : Ghost} {vi vm va : Sl} {S : List Sl} {M : List Int} {Q : List An} {I : List (List It)} (h : LkD w wr og vi vm va S M Q I) : LkD w (wr.setCell ⟨w.heap.size + 1, 3, none⟩ (.bool true)) og vi vm va S M Q I := by
  have e : ∀ k, (wr.setCell ⟨w.heap.size + 1, 3, none⟩ (.bool true)).heap[k]? = wr.heap[k]? := fun k => by
    by_cases hk : k = w.heap.size + 1
    · subst hk; rw [heap_setCell_same _ _ _ _ _ _ h.blk, h.blk]; rfl
    · exact heap_setCell_other _ _ _ _ (by show k ≠ _; exact hk)
  refine ⟨⟨h.bel.os, h.bel.tape, h.bel.output, by simp; exact h.bel.size, fun k hk => (e k).trans (h.bel.block k hk)⟩, (e _).trans h.blk, h.gm, (e _).trans h.res, h.gr, h.oi.chg (fun k _ => e k), h.ti, h.om.chg (fun k _ => e k), h.tm, h.oa.chg (fun k _ => e k), h.ta, h.ls, fun j s x hs hx => ?_⟩
  obtain ⟨a, b, c⟩ := h.it j s x hs hx
  exact ⟨a, b.chg (by simp) (fun b off _ => e b), fun b off e' => by simpa using c b off e'⟩
theorem LkD.cells {w wr : World} {og : Ghost} {vi vm va : Sl} {S : List Sl} {M : List Int} {Q : List An} {I : List (List It)} (h : LkD w wr og vi vm va S M Q I) {w2 : World} {v : Value} {T : Tag} (g : wr.grownBy w2 v.ownBlock) (tv : TgV og v T) (hT : T ≠ .gm) : w2.heap[w.heap.size + 1]? = some (.cells #[vi.val, vm.val, va.val, .bool true] 46) :=
  (g.block _ (lt_of_blk h.blk) (fun e => hT ((tv _ e.symm).symm.trans h.gm))).trans h.blk
section
variable {w wr wa w2 : World} {og : Ghost} {vi vm va : Sl} {S : List Sl} {M : List Int} {Q : List An} {I : List (List It)}
/-- What is not a block of the look that is being made stays with it. -/
theorem LkD.keepB (h : LkD w wr og vi vm va S M Q I) {v : Value} {T : Tag} (g1 : wr.grownBy w2 v.ownBlock) (tv : TgV og v T) (hT : T ≠ .ldI) {i : Nat} {v' : Value} {k : Nat} {o : Obj} (hk : wr.heap[k]? = some o) (ho : og k = .ldI) : (w2.setCell ⟨w.heap.size + 1, i, none⟩ v').heap[k]? = some o := by
  rw [heap_setCell_other _ _ _ _ (by show k ≠ w.heap.size + 1; intro e; rw [e, h.gm] at ho; simp at ho), g1.block k (List.getElem?_eq_some_iff.1 (by simpa using hk)).1 (fun e => hT ((tv k e.symm).symm.trans ho))]
  exact hk
theorem LkD.putI (h : LkD w wr og vi vm va S M Q I) (hb : Below wr.heap.size wr wa) (s : Sl) (x : List It) (hx : x.length = s.n ∧ RowsAt clIt wr s.p x ∧ ∀ b off, s.p = some ⟨b, off, none⟩ → w.heap.size ≤ b ∧ b < wr.heap.size ∧ og b = .ldI) (v' : Sl) (o1 : Own clSl w2 w.heap.size 32 v'.val (S ++ [s])) (g1 : wa.grownBy w2 vi.val.ownBlock) (t1 : v'.val.ownBlock = vi.val.ownBlock ∨ v'.val.ownBlock = some wa.heap.size) {kk : Nat} {oo : Obj} (hkk : wr.heap[kk]? = some oo) (hok : og kk = .ldI) :
    (∃ og', LkD w (w2.setCell ⟨w.heap.size + 1, 0, none⟩ v'.val) og' v' vm va (S ++ [s]) M Q (I ++ [x]) ∧ ((w2.setCell ⟨w.heap.size + 1, 0, none⟩ v'.val).heap[kk]? = some oo ∧ og' kk = .ldI)) ∧ w2.heap[w.heap.size + 1]? = some (.cells #[vi.val, vm.val, va.val, .bool true] 46) := by
  have ha := h.below hb
  have hkl : kk < wr.heap.size := (List.getElem?_eq_some_iff.1 (by simpa using hkk)).1
  have hka : wa.heap[kk]? = some oo := (hb.block kk hkl).trans hkk
  refine ⟨⟨_, ha.appI s x ⟨hx.1, hx.2.1.below hb, fun b off e => ?_⟩ v' o1 g1 t1, ha.keepB g1 ha.ti (by simp) hka (by rw [if_pos hkl]; exact hok), ?_⟩, ha.cells g1 ha.ti (by simp)⟩
  · obtain ⟨c1, c2, c3⟩ := hx.2.2 b off e
    exact ⟨c1, Nat.lt_of_lt_of_le c2 hb.size, by rw [if_pos c2]; exact c3⟩
  · exact (lk_same (w1 := wa) t1 ha.ti kk (Nat.lt_of_lt_of_le hkl hb.size) (by rw [if_pos hkl, hok]; simp)).trans (by rw [if_pos hkl]; exact hok)
theorem LkD.putM (h : LkD w wr og vi vm va S M Q I) (hb : Below wr.heap.size wr wa) (x : Int) (v' : Sl) (o1 : Own clInt w2 w.heap.size 3 v'.val (M ++ [x])) (g1 : wa.grownBy w2 vm.val.ownBlock) (t1 : v'.val.ownBlock = vm.val.ownBlock ∨ v'.val.ownBlock = some wa.heap.size) {kk : Nat} {oo : Obj} (hkk : wr.heap[kk]? = some oo) (hok : og kk = .ldI) :
    (∃ og', LkD w (w2.setCell ⟨w.heap.size + 1, 1, none⟩ v'.val) og' vi v' va S (M ++ [x]) Q I ∧ ((w2.setCell ⟨w.heap.size + 1, 1, none⟩ v'.val).heap[kk]? = some oo ∧ og' kk = .ldI)) ∧ w2.heap[w.heap.size + 1]? = some (.cells #[vi.val, vm.val, va.val, .bool true] 46) := by
  have ha := h.below hb
  have hkl : kk < wr.heap.size := (List.getElem?_eq_some_iff.1 (by simpa using hkk)).1
  have hka : wa.heap[kk]? = some oo := (hb.block kk hkl).trans hkk
  exact ⟨⟨_, ha.appM x v' o1 g1 t1, ha.keepB g1 ha.tm (by simp) hka (by rw [if_pos hkl]; exact hok), (lk_same (w1 := wa) t1 ha.tm kk (Nat.lt_of_lt_of_le hkl hb.size) (by rw [if_pos hkl, hok]; simp)).trans (by rw [if_pos hkl]; exact hok)⟩, ha.cells g1 ha.tm (by simp)⟩
theorem LkD.putA (h : LkD w wr og vi vm va S M Q I) (hb : Below wr.heap.size wr wa) (x : An) (v' : Sl) (o1 : Own clAn w2 w.heap.size 61 v'.val (Q ++ [x])) (g1 : wa.grownBy w2 va.val.ownBlock) (t1 : v'.val.ownBlock = va.val.ownBlock ∨ v'.val.ownBlock = some wa.heap.size) :
    (∃ og', LkD w (w2.setCell ⟨w.heap.size + 1, 2, none⟩ v'.val) og' vi vm v' S M (Q ++ [x]) I) ∧ w2.heap[w.heap.size + 1]? = some (.cells #[vi.val, vm.val, va.val, .bool true] 46) := by
  have ha := h.below hb
  exact ⟨⟨_, ha.appA x v' o1 g1 t1⟩, ha.cells g1 ha.ta (by simp)⟩
end
set_option maxHeartbeats 8000000 in
theorem klook_any (SR : SRT) (R : PR SR) (w : World) (own : Ghost) (B0 bk bs : Nat) (t : List Int) (wid : Int) (m : Nat) (D : List Nd) (A : List (Int × List It)) (hg : KX SR B0 bk bs t wid m D A w own) (hm : m < 100000000) :
    Calls Try.prog 14 #[.pointer (some ⟨bk, 0, none⟩)] w fun e w' => ∃ (vi vm va : Sl) (S : List Sl), e = .returned (.agg #[vi.val, vm.val, va.val, .bool true]) ∧ (∀ own' : Ghost, (∀ k, w.heap.size ≤ k → own' k = .arg) → LkAt w' own' t D vi vm va S) ∧ Below w.heap.size w w' := by
  have HX : Hid (KX SR B0 bk bs t wid m D A w own) := hg
  obtain ⟨vt, vs, vl, C, PK, g⟩ := hg
  have h8 := g.T.le
  have hp1 := g.T.pos
  obtain ⟨N, hN⟩ : ∃ N, t.length = N := ⟨_, rfl⟩
  have HN : Hid (t.length = N) := hN
  obtain ⟨⟨tp, tn, tc⟩, hvt⟩ : ∃ v0 : Sl, v0 = vt := ⟨_, rfl⟩
  have htr : t.length = tn ∧ RowsAt clInt w tp t := by have := g.tr; rw [← hvt] at this; exact Own.sl (s := ⟨tp, tn, tc⟩) this
  have C0 : Hid (w.cell? ⟨bk, 0, none⟩ = some (.pointer (some ⟨bs, 0, none⟩))) := by unfold Hid; rw [cell_of_row _ _ _ _ _ _ g.run]; rfl
  have C1 : Hid (w.cell? ⟨bk, 1, none⟩ = some (.slice tp N tc)) := by unfold Hid; rw [cell_of_row _ _ _ _ _ _ g.run, ← hvt, ← hN, htr.1]; rfl
  have HST : Hid (SR w own B0 bs t wid D) := g.st
  have HR : Hid (PR SR) := R
  have HDI : Hid (DI D 100000000) := g.di.mono' (by omega)
  clear g R htr hvt
  go_enter Try.func14, Try.ntmps14
  go_wp2_with (refine alloc_lk rfl rfl ?_)
  go_loopw [4] (fun i wr => ∃ (k : Nat) (og : Ghost) (vi vm va : Sl) (S : List Sl), k ≤ N ∧ i = .int .i64 k ∧ LkD w wr og vi vm va S (lkM t D k) (lkA t D k) (lkI t D k)) (fun i _ => N - (intOf i).toNat)
  case atStart => exact ⟨0, _, _, _, _, _, by omega, rfl, lkD_start w⟩
  case round =>
    obtain ⟨k, og, ⟨ip, il, ic⟩, ⟨mp, ml, mc⟩, ⟨ap, al, ac⟩, S, hk, rfl, hlk⟩ := hrel
    have LK : Hid (LkD w wr og ⟨ip, il, ic⟩ ⟨mp, ml, mc⟩ ⟨ap, al, ac⟩ S (lkM t D k) (lkA t D k) (lkI t D k)) := hlk
    have c0 := cell_keep hlk.bel C0.out
    have c1 := cell_keep hlk.bel C1.out
    have hSk : S.length = k := by rw [hlk.ls, lkI_len]
    clear hlk
    by_cases hkN : k < N
    · have HE : Hid (askErr t k 0 19 = 0) := by unfold Hid askErr; rw [if_pos (by simp [isNd]; omega), if_pos (by decide)]
      obtain ⟨an, han⟩ : ∃ an, an = askAn t (lvAt t D k) k 0 19 := ⟨_, rfl⟩
      have HAN : Hid (askAn t (lvAt t D k) k 0 19 = an) := han.symm
      obtain ⟨wm, hwm⟩ : ∃ wm, wm = wmAt t D k := ⟨_, rfl⟩
      have HWM : Hid (wmAt t D k = wm) := hwm.symm
      clear han hwm
      have d0 : wr.cell? ⟨bk, 0, none⟩ = some (.pointer (some ⟨bs, 0, none⟩)) := c0
      go_upto_region 7 with (go_at_call 11; refine (HR.out.items wr own B0 bs t wid D (HR.out.below' HST.out LK.out.bel) HDI.out k ⟨by omega, by omega⟩).mono ?_; rintro e w1 ⟨v1, rfl, ho1, hb1⟩; obtain ⟨xp, xl, xc, rfl, hxl⟩ : ∃ xp xl xc, v1 = .slice xp xl xc ∧ (lvAt t D k).length = xl := (by obtain ⟨p', c', e, _⟩ := ho1.form; exact ⟨p', _, c', e, rfl⟩); have HO1 : Hid (Own clIt w1 wr.heap.size 80 (.slice xp xl xc) (lvAt t D k)) := ho1; have HXL : Hid ((lvAt t D k).length = xl) := hxl; have HB1 : Hid (Below wr.heap.size wr w1) := hb1; clear ho1 hb1 hxl c0 c1)
      rename World => w1
      have d1 := cell_keep HB1.out d0
      clear d0
      go_upto_region 8 with (go_at_call 31; refine (HR.out.mark w1 own B0 bs t wid D (HR.out.below' HST.out (bnext LK.out.bel HB1.out)) HDI.out k ⟨by omega, by omega⟩).mono ?_; rintro e w2 ⟨rfl, hb2⟩; rw [HWM.out]; have HB2 : Hid (Below wr.heap.size wr w2) := bnext HB1.out hb2; have HB12 : Hid (Below w1.heap.size w1 w2) := hb2; have d2 := cell_keep hb2 d1; clear hb2 d1)
      rename World => w2
      go_upto_region 9 with (first | (go_at_call 32; refine (HR.out.ask w2 own B0 bs t wid D (HR.out.below' HST.out (bnext LK.out.bel HB2.out)) HDI.out k 0 19 ⟨by omega, by omega⟩ ⟨by omega, by omega⟩ ⟨by omega, by omega⟩).mono ?_; rintro e w3 ⟨AA, rfl, hA, hb3⟩; rw [HE.out]; rw [HAN.out] at hA; have HA : Hid (IsAn AA an) := hA; have HB3 : Hid (Below wr.heap.size wr w3) := bnext HB2.out hb3; have HB13 : Hid (Below w1.heap.size w1 w3) := bnext HB12.out hb3; clear hA hb3 d2) | (refine alloc_an rfl rfl ?_; intro Z hZ) | (refine store_an_new rfl _ _ rfl AA _ _ rfl rfl (by rfl) HA.out hZ ?_))
      rename World => w3
      obtain ⟨w4, hw4⟩ : ∃ w4, w4 = w3.alloc (.cells AA 61) := ⟨_, rfl⟩
      have HB4 : Hid (Below wr.heap.size wr w4) := by unfold Hid; rw [hw4]; exact bnext HB3.out (below_alloc _ _)
      have GA4 : Hid (w4.heap[w3.heap.size]? = some (.cells AA 61)) := by unfold Hid; rw [hw4]; exact heap_alloc_new _ _
      have hs3 : wr.heap.size ≤ w3.heap.size := HB3.out.size
      obtain ⟨og4, hog4⟩ : ∃ og4 : Ghost, og4 = (fun k => if k < wr.heap.size then og k else .ldI) := ⟨_, rfl⟩
      have LK4 : Hid (LkD w w4 og4 ⟨ip, il, ic⟩ ⟨mp, ml, mc⟩ ⟨ap, al, ac⟩ S (lkM t D k) (lkA t D k) (lkI t D k)) := by unfold Hid; rw [hog4]; exact LK.out.below HB4.out
      have HOA : Hid (og4 w3.heap.size = .ldI) := by unfold Hid; rw [hog4]; exact if_neg (by omega)
      have HIX : Hid ((lvAt t D k).length = xl ∧ RowsAt clIt w4 xp (lvAt t D k) ∧ ∀ b off, xp = some ⟨b, off, none⟩ → w.heap.size ≤ b ∧ b < w4.heap.size ∧ og4 b = .ldI) := by
        have hr1 := (Own.sl (s := ⟨xp, xl, xc⟩) HO1.out).2
        have hb14 : w1.heap.size ≤ w4.heap.size ∧ ∀ b, b < w1.heap.size → w4.heap[b]? = w1.heap[b]? := by rw [hw4]; exact ⟨(bnext HB13.out (below_alloc _ _)).size, (bnext HB13.out (below_alloc _ _)).block⟩
        have hlt : ∀ b off, xp = some ⟨b, off, none⟩ → wr.heap.size ≤ b ∧ b < w1.heap.size := fun b off e => HO1.out.lt b (by rw [e]; rfl)
        refine ⟨HXL.out, hr1.chg hb14.1 (fun b off e => hb14.2 b (hlt b off e).2), fun b off e => ?_⟩
        have := hlt b off e
        have := LK.out.bel.size
        exact ⟨by omega, by omega, by rw [hog4]; exact if_neg (by omega)⟩
      rw [← hw4]
      clear hw4 hog4
      have k0 : w4.cell? ⟨w.heap.size + 1, 0, none⟩ = some (.slice ip il ic) := by rw [cell_of_row _ _ _ _ _ _ LK4.out.blk]; rfl
      have hws4 : w.heap.size ≤ w4.heap.size := LK4.out.bel.size
      try dsimp only
      try simp only [Act.put, List.getElem_toArray, List.getElem_cons_succ, List.getElem_cons_zero, List.setIfInBounds_toArray, List.set_cons_zero, List.set_cons_succ]
      go_upto_region 10 with (first | (refine build1_sl rfl _ rfl ⟨xp, xl, xc⟩ rfl ?_; intro R1) | (at_builtin; refine append_sl rfl _ _ rfl w.heap.size _ S rfl (by exact LK4.out.oi.below (below_alloc _ _)) _ 1 _ _ rfl rfl R1 (by omega) (by omega) (by simp; omega) ?_; intro v5 w5 o5 g5 t5 f5; obtain ⟨gn, cn, hv5⟩ := f5; rw [show (S ++ [(⟨xp, xl, xc⟩ : Sl)]).length = k + 1 by simp [hSk]] at hv5; subst hv5; have LK5 : Hid ((∃ og', LkD w (w5.setCell ⟨w.heap.size + 1, 0, none⟩ (.slice (some ⟨gn, 0, none⟩) (k + 1) cn)) og' ⟨some ⟨gn, 0, none⟩, k + 1, cn⟩ ⟨mp, ml, mc⟩ ⟨ap, al, ac⟩ (S ++ [⟨xp, xl, xc⟩]) (lkM t D k) (lkA t D k) (lkI t D k ++ [lvAt t D k]) ∧ ((w5.setCell ⟨w.heap.size + 1, 0, none⟩ (.slice (some ⟨gn, 0, none⟩) (k + 1) cn)).heap[w3.heap.size]? = some (.cells AA 61) ∧ og' w3.heap.size = .ldI)) ∧ w5.heap[w.heap.size + 1]? = some (.cells #[.slice ip il ic, .slice mp ml mc, .slice ap al ac, .bool true] 46)) := LkD.putI LK4.out (below_alloc _ _) ⟨xp, xl, xc⟩ (lvAt t D k) HIX.out ⟨some ⟨gn, 0, none⟩, k + 1, cn⟩ o5 g5 t5 GA4.out HOA.out; have k5 : w5.cell? ⟨w.heap.size + 1, 0, none⟩ = some (.slice ip il ic) := (by rw [cell_of_row _ _ _ _ _ _ LK5.out.2]; rfl); have z5 : w5.frozen? ⟨w.heap.size + 1, 0, none⟩ = false := frozen_of_row _ _ _ _ _ LK5.out.2; clear o5 g5 t5 R1 k0))
      rename World => w5
      obtain ⟨w6, hw6⟩ : ∃ w6, w6 = w5.setCell ⟨w.heap.size + 1, 0, none⟩ (.slice (some ⟨gn, 0, none⟩) (k + 1) cn) := ⟨_, rfl⟩
      obtain ⟨og6, hLK6, hGA6⟩ := LK5.out.1
      rw [← hw6] at hLK6 hGA6
      have LK6 : Hid (LkD w w6 og6 ⟨some ⟨gn, 0, none⟩, k + 1, cn⟩ ⟨mp, ml, mc⟩ ⟨ap, al, ac⟩ (S ++ [⟨xp, xl, xc⟩]) (lkM t D k) (lkA t D k) (lkI t D k ++ [lvAt t D k])) := hLK6
      have GA6 : Hid (w6.heap[w3.heap.size]? = some (.cells AA 61) ∧ og6 w3.heap.size = .ldI) := hGA6
      rw [← hw6]
      clear hw6 LK5 hLK6 hGA6 k5 z5
      have k1 : w6.cell? ⟨w.heap.size + 1, 1, none⟩ = some (.slice mp ml mc) := by rw [cell_of_row _ _ _ _ _ _ LK6.out.blk]; rfl
      have hws6 : w.heap.size ≤ w6.heap.size := LK6.out.bel.size
      try dsimp only
      try simp only [Act.put, List.getElem_toArray, List.getElem_cons_succ, List.getElem_cons_zero, List.setIfInBounds_toArray, List.set_cons_zero, List.set_cons_succ]
      go_upto_region 11 with (first | (refine build1_int rfl _ rfl wm rfl ?_; intro R1) | (at_builtin; refine append_int' rfl _ _ rfl w.heap.size _ (lkM t D k) rfl (by exact LK6.out.om.below (below_alloc _ _)) _ 1 _ _ rfl rfl R1 (by omega) (by rw [lkM_len]; omega) (by simp; omega) ?_; intro v7 w7 o7 g7 t7 f7; obtain ⟨gm, cm, hv7⟩ := f7; rw [show (lkM t D k ++ [wm]).length = k + 1 by simp [lkM_len]] at hv7; subst hv7; have LK7 : Hid ((∃ og', LkD w (w7.setCell ⟨w.heap.size + 1, 1, none⟩ (.slice (some ⟨gm, 0, none⟩) (k + 1) cm)) og' ⟨some ⟨gn, 0, none⟩, k + 1, cn⟩ ⟨some ⟨gm, 0, none⟩, k + 1, cm⟩ ⟨ap, al, ac⟩ (S ++ [⟨xp, xl, xc⟩]) (lkM t D k ++ [wm]) (lkA t D k) (lkI t D k ++ [lvAt t D k]) ∧ ((w7.setCell ⟨w.heap.size + 1, 1, none⟩ (.slice (some ⟨gm, 0, none⟩) (k + 1) cm)).heap[w3.heap.size]? = some (.cells AA 61) ∧ og' w3.heap.size = .ldI)) ∧ w7.heap[w.heap.size + 1]? = some (.cells #[.slice (some ⟨gn, 0, none⟩) (k + 1) cn, .slice mp ml mc, .slice ap al ac, .bool true] 46)) := LkD.putM LK6.out (below_alloc _ _) wm ⟨some ⟨gm, 0, none⟩, k + 1, cm⟩ o7 g7 t7 GA6.out.1 GA6.out.2; have k7 : w7.cell? ⟨w.heap.size + 1, 1, none⟩ = some (.slice mp ml mc) := (by rw [cell_of_row _ _ _ _ _ _ LK7.out.2]; rfl); have z7 : w7.frozen? ⟨w.heap.size + 1, 1, none⟩ = false := frozen_of_row _ _ _ _ _ LK7.out.2; clear o7 g7 t7 R1 k1))
      rename World => w7
      obtain ⟨w8, hw8⟩ : ∃ w8, w8 = w7.setCell ⟨w.heap.size + 1, 1, none⟩ (.slice (some ⟨gm, 0, none⟩) (k + 1) cm) := ⟨_, rfl⟩
      obtain ⟨og8, hLK8, hGA8⟩ := LK7.out.1
      rw [← hw8] at hLK8 hGA8
      have LK8 : Hid (LkD w w8 og8 ⟨some ⟨gn, 0, none⟩, k + 1, cn⟩ ⟨some ⟨gm, 0, none⟩, k + 1, cm⟩ ⟨ap, al, ac⟩ (S ++ [⟨xp, xl, xc⟩]) (lkM t D k ++ [wm]) (lkA t D k) (lkI t D k ++ [lvAt t D k])) := hLK8
      have GA8 : Hid (w8.heap[w3.heap.size]? = some (.cells AA 61) ∧ og8 w3.heap.size = .ldI) := hGA8
      rw [← hw8]
      clear hw8 LK7 hLK8 hGA8 k7 z7
      have k2 : w8.cell? ⟨w.heap.size + 1, 2, none⟩ = some (.slice ap al ac) := by rw [cell_of_row _ _ _ _ _ _ LK8.out.blk]; rfl
      have hws8 : w.heap.size ≤ w8.heap.size := LK8.out.bel.size
      try dsimp only
      try simp only [Act.put, List.getElem_toArray, List.getElem_cons_succ, List.getElem_cons_zero, List.setIfInBounds_toArray, List.set_cons_zero, List.set_cons_succ]
      go_upto_region 12 with (first | (refine load_an rfl _ rfl _ rfl AA an HA.out (by exact GA8.out.1) ?_) | (refine build1_an rfl _ rfl AA an HA.out rfl ?_; intro R1) | (at_builtin; refine append_an rfl _ _ rfl w.heap.size _ (lkA t D k) rfl (by exact LK8.out.oa.below (below_alloc _ _)) _ 1 _ _ rfl rfl R1 (by omega) (by rw [lkA_len]; omega) (by simp; omega) ?_; intro v9 w9 o9 g9 t9 f9; obtain ⟨ga, ca, hv9⟩ := f9; rw [show (lkA t D k ++ [an]).length = k + 1 by simp [lkA_len]] at hv9; subst hv9; have LK9 : Hid ((∃ og', LkD w (w9.setCell ⟨w.heap.size + 1, 2, none⟩ (.slice (some ⟨ga, 0, none⟩) (k + 1) ca)) og' ⟨some ⟨gn, 0, none⟩, k + 1, cn⟩ ⟨some ⟨gm, 0, none⟩, k + 1, cm⟩ ⟨some ⟨ga, 0, none⟩, k + 1, ca⟩ (S ++ [⟨xp, xl, xc⟩]) (lkM t D k ++ [wm]) (lkA t D k ++ [an]) (lkI t D k ++ [lvAt t D k])) ∧ w9.heap[w.heap.size + 1]? = some (.cells #[.slice (some ⟨gn, 0, none⟩) (k + 1) cn, .slice (some ⟨gm, 0, none⟩) (k + 1) cm, .slice ap al ac, .bool true] 46)) := LkD.putA LK8.out (below_alloc _ _) an ⟨some ⟨ga, 0, none⟩, k + 1, ca⟩ o9 g9 t9; have k9 : w9.cell? ⟨w.heap.size + 1, 2, none⟩ = some (.slice ap al ac) := (by rw [cell_of_row _ _ _ _ _ _ LK9.out.2]; rfl); have z9 : w9.frozen? ⟨w.heap.size + 1, 2, none⟩ = false := frozen_of_row _ _ _ _ _ LK9.out.2; clear o9 g9 t9 R1 k2))
      rename World => w9
      obtain ⟨wA, hwA⟩ : ∃ wA, wA = w9.setCell ⟨w.heap.size + 1, 2, none⟩ (.slice (some ⟨ga, 0, none⟩) (k + 1) ca) := ⟨_, rfl⟩
      obtain ⟨ogA, hLKA⟩ := LK9.out.1
      rw [← hwA] at hLKA
      have LKA : Hid (LkD w wA ogA ⟨some ⟨gn, 0, none⟩, k + 1, cn⟩ ⟨some ⟨gm, 0, none⟩, k + 1, cm⟩ ⟨some ⟨ga, 0, none⟩, k + 1, ca⟩ (S ++ [⟨xp, xl, xc⟩]) (lkM t D (k + 1)) (lkA t D (k + 1)) (lkI t D (k + 1))) := by
        unfold Hid; rw [lkM_succ, lkA_succ, lkI_succ, HWM.out, HAN.out]; exact hLKA
      rw [← hwA]
      clear hwA LK9 hLKA k9 z9
      have k3 : wA.cell? ⟨w.heap.size + 1, 3, none⟩ = some (.bool true) := by rw [cell_of_row _ _ _ _ _ _ LKA.out.blk]; rfl
      have z3 : wA.frozen? ⟨w.heap.size + 1, 3, none⟩ = false := frozen_of_row _ _ _ _ _ LKA.out.blk
      try dsimp only
      try simp only [Act.put, List.getElem_toArray, List.getElem_cons_succ, List.getElem_cons_zero, List.setIfInBounds_toArray, List.set_cons_zero, List.set_cons_succ]
      go_wp2
      go_roundw
      case rel => exact ⟨k + 1, ogA, _, _, _, _, by omega, by go_num, LKA.out.again⟩
      case measure => simp [intOf]; omega
    · obtain rfl : k = N := by omega
      have b0 := LK.out.blk
      have b1 := LK.out.res
      have HLN : Hid (LkD w wr og ⟨ip, il, ic⟩ ⟨mp, ml, mc⟩ ⟨ap, al, ac⟩ S (lkM t D t.length) (lkA t D t.length) (lkI t D t.length)) := by unfold Hid; rw [HN.out]; exact LK.out
      have HB0 : Hid (wr.heap[w.heap.size + 1]? = some (.cells #[.slice ip il ic, .slice mp ml mc, .slice ap al ac, .bool true] 46)) := b0
      have HB1 : Hid (wr.heap[w.heap.size]? = some (.cells #[.slice none 0 0, .slice none 0 0, .slice none 0 0, .bool false] 46)) := b1
      clear b0 b1
      go_wp2_with (first | (refine load_lk rfl _ rfl _ rfl _ _ _ _ (by exact HB0.out) ?_) | (refine store_lk rfl _ _ rfl ⟨ip, il, ic⟩ ⟨mp, ml, mc⟩ ⟨ap, al, ac⟩ true rfl rfl (by exact HB1.out) rfl ?_))
      refine bodyPost_ret (results_lk rfl _ _ _ _ _ _ _ rfl (setRow_blk HB1.out)) rfl ?_
      exact ⟨⟨ip, il, ic⟩, ⟨mp, ml, mc⟩, ⟨ap, al, ac⟩, S, rfl, fun own' ho => HLN.out.at (.inr ⟨_, rfl⟩) ho, below_setRow _ LK.out.bel (Nat.le_refl _)⟩
end Go.Proofs.Ytpglbakcjihohab

/-! Two lists of items, and two looks, held against one another. -/
namespace Go.Proofs.Ytpglbakcjihohab
open Go.RowKit
set_option maxRecDepth 100000

set_option maxHeartbeats 1000000 in
theorem ksame_any (l : List It) (hok : AllOkI l) (p q : Option Addr) (n c c' : Nat) (w : World) (hn : l.length = n) (hp : RowsAt clIt w p l) (hq : RowsAt clIt w q l) (hm : n ≤ 1000000000) :
    Calls Try.prog 12 #[.slice p n c, .slice q n c'] w fun e w' => e = .returned (.bool true) ∧ Below w.heap.size w w' := by
  go_enter Try.func12, Try.ntmps12
  go_wp2
  go_loopw [5] (fun i wr => ∃ k : Nat, k ≤ n ∧ i = .int .i64 k ∧ Below w.heap.size w wr) (fun i _ => n - (intOf i).toNat)
  case atStart => exact ⟨0, by omega, rfl, Below.refl _ _⟩
  case round =>
    obtain ⟨k, hk, rfl, hB⟩ := hrel
    by_cases hlk : k < n
    · obtain ⟨b, off, rfl, hlt, hc⟩ := hp.pos k (by omega)
      obtain ⟨b', off', rfl, hlt', hc'⟩ := hq.pos k (by omega)
      obtain ⟨x, hx⟩ : ∃ x, l[k]? = some x := ⟨_, List.getElem?_eq_getElem (by omega)⟩
      have r1 := range_below hB hlt (hc k x hx)
      have r2 := range_below hB hlt' (hc' k x hx)
      have okx := hok k x hx
      obtain ⟨A, hA⟩ : ∃ A, IsIt A x := ⟨_, isIt_of x⟩
      go_wp2
      refine wp_region_still_lit mixed (by kernel_rfl) ?_
      repeat still_step
      refine still_load_it_mid (by rfl) _ rfl _ _ rfl A x hA (by exact r1) ?_
      repeat still_step
      refine still_load_it_mid (by rfl) _ rfl _ _ rfl A x hA (by exact r2) ?_
      refine still_neq_it (by rfl) _ _ _ rfl A x hA okx rfl rfl ?_
      refine wpStill_nil ?_
      go_wp2
      go_roundw
      case rel => exact ⟨k + 1, by omega, by go_num, below_drawn hB _⟩
      case measure => simp [intOf]; omega
    · obtain rfl : k = n := by omega
      go_wp2
      go_ret
      exact ⟨rfl, hB⟩
set_option maxHeartbeats 8000000 in
theorem kalike_any (w : World) (own own' : Ghost) (t : List Int) (h8 : t.length ≤ 8) (D D' : List Nd) (vi vm va vi' vm' va' : Sl) (S S' : List Sl) (ha : LkAt w own t D vi vm va S) (hb : LkAt w own' t D' vi' vm' va' S') (but : Int) (hbut : fitsI but)
    (hgd : ∀ k : Nat, k < t.length → AllOkI (lvAt t D k) ∧ (lvAt t D k).length ≤ 160) (hsame : ∀ k : Nat, k < t.length → (k : Int) ≠ but → lvAt t D' k = lvAt t D k ∧ wmAt t D' k = wmAt t D k) :
    Calls Try.prog 18 #[.agg #[vi.val, vm.val, va.val, .bool true], .agg #[vi'.val, vm'.val, va'.val, .bool true], .int .i64 but] w fun e w' => e = .returned (.bool true) ∧ Below w.heap.size w w' := by
  obtain ⟨N, hN⟩ : ∃ N, t.length = N := ⟨_, rfl⟩
  obtain ⟨ip, il, ic⟩ := vi
  obtain ⟨mp, ml, mc⟩ := vm
  obtain ⟨ap, al, ac⟩ := va
  obtain ⟨ip', il', ic'⟩ := vi'
  obtain ⟨mp', ml', mc'⟩ := vm'
  obtain ⟨ap', al', ac'⟩ := va'
  obtain rfl : N = il := (ha.ni.trans hN).symm
  obtain rfl : N = ml := (ha.nm.trans hN).symm
  obtain rfl : N = al := (ha.na.trans hN).symm
  obtain rfl : N = il' := (hb.ni.trans hN).symm
  obtain rfl : N = ml' := (hb.nm.trans hN).symm
  obtain rfl : N = al' := (hb.na.trans hN).symm
  have HA : Hid (LkAt w own t D ⟨ip, N, ic⟩ ⟨mp, N, mc⟩ ⟨ap, N, ac⟩ S) := ha
  have HB : Hid (LkAt w own' t D' ⟨ip', N, ic'⟩ ⟨mp', N, mc'⟩ ⟨ap', N, ac'⟩ S') := hb
  have HGD : Hid (∀ k : Nat, k < t.length → AllOkI (lvAt t D k) ∧ (lvAt t D k).length ≤ 160) := hgd
  have HSM : Hid (∀ k : Nat, k < t.length → (k : Int) ≠ but → lvAt t D' k = lvAt t D k ∧ wmAt t D' k = wmAt t D k) := hsame
  clear ha hb hgd hsame
  show Calls Try.prog 18 #[.agg #[.slice ip N ic, .slice mp N mc, .slice ap N ac, .bool true], .agg #[.slice ip' N ic', .slice mp' N mc', .slice ap' N ac', .bool true], .int .i64 but] w _
  go_enter Try.func18, Try.ntmps18
  go_upto_region 1 with fail
  obtain ⟨w0, hw0⟩ : ∃ w0, w0 = (w.alloc (.cells #[.slice ip N ic, .slice mp N mc, .slice ap N ac, .bool true] 46)).alloc (.cells #[.slice ip' N ic', .slice mp' N mc', .slice ap' N ac', .bool true] 46) := ⟨_, rfl⟩
  have HB0 : Hid (Below w.heap.size w w0) := by unfold Hid; rw [hw0]; exact bnext (below_alloc _ _) (below_alloc _ _)
  have G0 : w0.heap[w.heap.size]? = some (.cells #[.slice ip N ic, .slice mp N mc, .slice ap N ac, .bool true] 46) := by rw [hw0]; exact blk_old (heap_alloc_new w _)
  have G1 : w0.heap[w.heap.size + 1]? = some (.cells #[.slice ip' N ic', .slice mp' N mc', .slice ap' N ac', .bool true] 46) := by
    have := heap_alloc_new (w.alloc (.cells #[.slice ip N ic, .slice mp N mc, .slice ap N ac, .bool true] 46)) (.cells #[.slice ip' N ic', .slice mp' N mc', .slice ap' N ac', .bool true] 46)
    rw [hw0]; simpa using this
  have HG : Hid (w0.heap[w.heap.size]? = some (.cells #[.slice ip N ic, .slice mp N mc, .slice ap N ac, .bool true] 46) ∧ w0.heap[w.heap.size + 1]? = some (.cells #[.slice ip' N ic', .slice mp' N mc', .slice ap' N ac', .bool true] 46)) := ⟨G0, G1⟩
  rw [← hw0]
  clear hw0 G0 G1
  try dsimp only
  try simp only [Act.put, List.getElem_toArray, List.getElem_cons_succ, List.getElem_cons_zero, List.setIfInBounds_toArray, List.set_cons_zero, List.set_cons_succ]
  go_wp2
  go_loopw [7] (fun i wr => ∃ k : Nat, k ≤ N ∧ i = .int .i64 k ∧ Below w0.heap.size w0 wr) (fun i _ => N - (intOf i).toNat)
  case atStart => exact ⟨0, by omega, rfl, Below.refl _ _⟩
  case round =>
    obtain ⟨k, hk, rfl, hbk⟩ := hrel
    have HBk : Hid (Below w0.heap.size w0 wr) := hbk
    have g0 := keep hbk HG.out.1
    have g1 := keep hbk HG.out.2
    have a0 : wr.cell? ⟨w.heap.size, 0, none⟩ = some (.slice ip N ic) := by rw [cell_of_row _ _ _ _ _ _ g0]; rfl
    have a1 : wr.cell? ⟨w.heap.size, 1, none⟩ = some (.slice mp N mc) := by rw [cell_of_row _ _ _ _ _ _ g0]; rfl
    have a2 : wr.cell? ⟨w.heap.size, 2, none⟩ = some (.slice ap N ac) := by rw [cell_of_row _ _ _ _ _ _ g0]; rfl
    have a3 : wr.cell? ⟨w.heap.size, 3, none⟩ = some (.bool true) := by rw [cell_of_row _ _ _ _ _ _ g0]; rfl
    have b0 : wr.cell? ⟨w.heap.size + 1, 0, none⟩ = some (.slice ip' N ic') := by rw [cell_of_row _ _ _ _ _ _ g1]; rfl
    have b1 : wr.cell? ⟨w.heap.size + 1, 1, none⟩ = some (.slice mp' N mc') := by rw [cell_of_row _ _ _ _ _ _ g1]; rfl
    have b2 : wr.cell? ⟨w.heap.size + 1, 2, none⟩ = some (.slice ap' N ac') := by rw [cell_of_row _ _ _ _ _ _ g1]; rfl
    have b3 : wr.cell? ⟨w.heap.size + 1, 3, none⟩ = some (.bool true) := by rw [cell_of_row _ _ _ _ _ _ g1]; rfl
    have HBW : Hid (Below w.heap.size w wr) := bnext HB0.out hbk
    clear hbk g0 g1
    by_cases hkN : k < N
    · by_cases hbt : (k : Int) = but
      · have hbb : ((k : Int) == but) = true := by simp [hbt]
        clear a1 a2 a3 b0 b1 b2 b3
        go_wp2
        go_roundw
        case rel => exact ⟨k + 1, by omega, by go_num, HBk.out⟩
        case measure => simp [intOf]; omega
      · have hbb : ((k : Int) == but) = false := by simp [hbt]
        obtain ⟨hs1, hs2⟩ := HSM.out k (by omega) hbt
        obtain ⟨s, hs⟩ : ∃ s, S[k]? = some s := ⟨_, List.getElem?_eq_getElem (by rw [HA.out.ls]; omega)⟩
        obtain ⟨s', hs'⟩ : ∃ s', S'[k]? = some s' := ⟨_, List.getElem?_eq_getElem (by rw [HB.out.ls]; omega)⟩
        obtain ⟨gi, oi, rfl, hgi, ci⟩ := HA.out.ri.sl_at HBW.out k s hs
        obtain ⟨gi', oi', rfl, hgi', ci'⟩ := HB.out.ri.sl_at HBW.out k s' hs'
        have hit := HA.out.it k s hs
        have hit' := HB.out.it k s' hs'
        rw [hs1] at hit'
        obtain ⟨sp, sn, sc⟩ := s
        obtain ⟨sp', sn', sc'⟩ := s'
        obtain rfl : sn' = sn := hit'.1.symm.trans hit.1
        have HIT : Hid ((lvAt t D k).length = sn' ∧ RowsAt clIt w sp (lvAt t D k) ∧ RowsAt clIt w sp' (lvAt t D k)) := ⟨hit.1, hit.2, hit'.2⟩
        have HOK := HGD.out k (by omega)
        have hsn : sn' ≤ 160 := by have := HIT.out.1; have := HOK.2; omega
        have HOK' : Hid (AllOkI (lvAt t D k)) := HOK.1
        have HOA : Hid (askAn t (lvAt t D k) k 0 19).Ok := askAn_ok HOK.1 HOK.2 k 0 19
        obtain ⟨gm, om, rfl, hgm, cm⟩ := HA.out.rm.int_at HBW.out k (by rw [lkM_len]; omega)
        obtain ⟨gm', om', rfl, hgm', cm'⟩ := HB.out.rm.int_at HBW.out k (by rw [lkM_len]; omega)
        rw [(List.getElem?_eq_some_iff.1 (lkM_at t D (show k < t.length by omega))).2] at cm
        rw [(List.getElem?_eq_some_iff.1 (lkM_at t D' (show k < t.length by omega))).2, hs2] at cm'
        obtain ⟨wm, hwm⟩ : ∃ wm, wm = wmAt t D k := ⟨_, rfl⟩
        rw [← hwm] at cm cm'
        obtain ⟨ga, oa, rfl, hga, ra⟩ := HA.out.ra.pos k (by rw [lkA_len]; omega)
        obtain ⟨ga', oa', rfl, hga', ra'⟩ := HB.out.ra.pos k (by rw [lkA_len]; omega)
        have ra1 := range_below HBW.out hga (ra k _ (lkA_at t D (show k < t.length by omega)))
        have ra2 := range_below HBW.out hga' (ra' k _ (lkA_at t D' (show k < t.length by omega)))
        rw [hs1] at ra2
        obtain ⟨an, han⟩ : ∃ an, an = askAn t (lvAt t D k) k 0 19 := ⟨_, rfl⟩
        have HOA' : Hid an.Ok := by rw [han]; exact HOA.out
        rw [← han] at ra1 ra2
        have HRA : Hid (wr.rangeAt ga (oa + k * 30) an.cells ∧ wr.rangeAt ga' (oa' + k * 30) an.cells) := ⟨ra1, ra2⟩
        obtain ⟨AA, hAA⟩ : ∃ AA, IsAn AA an := ⟨_, isAn_of an⟩
        have q0 : (0 : Int) ≤ (k : Int) := by omega
        have q1 : (k : Int) < (N : Int) := by omega
        clear hit hit' hs hs' hs1 hs2 HOK ra ra' ra1 ra2 han hwm HOA
        go_upto_region 5 with fail
        have hT0 : (fun w' : World => (w'.cell? ⟨w.heap.size, 0, none⟩ = some (.slice (some ⟨gi, oi, none⟩) N ic) ∧ w'.cell? ⟨w.heap.size + 1, 0, none⟩ = some (.slice (some ⟨gi', oi', none⟩) N ic') ∧ w'.cell? ⟨gi, oi + k, none⟩ = some (.slice sp sn' sc) ∧ w'.cell? ⟨gi', oi' + k, none⟩ = some (.slice sp' sn' sc'))) wr.drew := ⟨a0, b0, ci, ci'⟩
        refine wp_region_held (S := fun w' : World => (w'.cell? ⟨w.heap.size, 0, none⟩ = some (.slice (some ⟨gi, oi, none⟩) N ic) ∧ w'.cell? ⟨w.heap.size + 1, 0, none⟩ = some (.slice (some ⟨gi', oi', none⟩) N ic') ∧ w'.cell? ⟨gi, oi + k, none⟩ = some (.slice sp sn' sc) ∧ w'.cell? ⟨gi', oi' + k, none⟩ = some (.slice sp' sn' sc'))) mixed ?_
        refine wpAnyH_take (i := 0) (v := (.pointer (some ⟨w.heap.size, 0, none⟩))) rfl (by kernel_rfl) (by kernel_rfl) (by kernel_rfl) (fun _ _ _ h => h) (Or.inl ⟨by rfl, fun wx hx => by go_simp⟩) hT0 ?_
        try dsimp only
        try simp only [Act.put, List.getElem_toArray, List.getElem_cons_succ, List.getElem_cons_zero, List.setIfInBounds_toArray, List.set_cons_zero, List.set_cons_succ]
        refine wpAnyH_take (i := 1) (v := (.slice (some ⟨gi, oi, none⟩) N ic)) rfl (by kernel_rfl) (by kernel_rfl) (by kernel_rfl) (fun _ _ _ h => h) (Or.inl ⟨by rfl, fun wx hx => by have hx1 := hx.1; go_simp⟩) hT0 ?_
        try dsimp only
        try simp only [Act.put, List.getElem_toArray, List.getElem_cons_succ, List.getElem_cons_zero, List.setIfInBounds_toArray, List.set_cons_zero, List.set_cons_succ]
        refine wpAnyH_take (i := 2) (v := (.int .i64 k)) rfl (by kernel_rfl) (by kernel_rfl) (by kernel_rfl) (fun _ _ _ h => h) (Or.inl ⟨by rfl, fun wx hx => by go_simp⟩) hT0 ?_
        try dsimp only
        try simp only [Act.put, List.getElem_toArray, List.getElem_cons_succ, List.getElem_cons_zero, List.setIfInBounds_toArray, List.set_cons_zero, List.set_cons_succ]
        refine wpAnyH_take (i := 3) (v := (.pointer (some ⟨gi, oi + k, none⟩))) rfl (by kernel_rfl) (by kernel_rfl) (by kernel_rfl) (fun _ _ _ h => h) (Or.inl ⟨by rfl, fun wx hx => by go_simp⟩) hT0 ?_
        try dsimp only
        try simp only [Act.put, List.getElem_toArray, List.getElem_cons_succ, List.getElem_cons_zero, List.setIfInBounds_toArray, List.set_cons_zero, List.set_cons_succ]
        refine wpAnyH_take (i := 4) (v := (.slice sp sn' sc)) rfl (by kernel_rfl) (by kernel_rfl) (by kernel_rfl) (fun _ _ _ h => h) (Or.inl ⟨by rfl, fun wx hx => by have hx1 := hx.2.2.1; go_simp⟩) hT0 ?_
        try dsimp only
        try simp only [Act.put, List.getElem_toArray, List.getElem_cons_succ, List.getElem_cons_zero, List.setIfInBounds_toArray, List.set_cons_zero, List.set_cons_succ]
        refine wpAnyH_take (i := 5) (v := (.pointer (some ⟨w.heap.size + 1, 0, none⟩))) rfl (by kernel_rfl) (by kernel_rfl) (by kernel_rfl) (fun _ _ _ h => h) (Or.inl ⟨by rfl, fun wx hx => by go_simp⟩) hT0 ?_
        try dsimp only
        try simp only [Act.put, List.getElem_toArray, List.getElem_cons_succ, List.getElem_cons_zero, List.setIfInBounds_toArray, List.set_cons_zero, List.set_cons_succ]
        refine wpAnyH_take (i := 6) (v := (.slice (some ⟨gi', oi', none⟩) N ic')) rfl (by kernel_rfl) (by kernel_rfl) (by kernel_rfl) (fun _ _ _ h => h) (Or.inl ⟨by rfl, fun wx hx => by have hx1 := hx.2.1; go_simp⟩) hT0 ?_
        try dsimp only
        try simp only [Act.put, List.getElem_toArray, List.getElem_cons_succ, List.getElem_cons_zero, List.setIfInBounds_toArray, List.set_cons_zero, List.set_cons_succ]
        refine wpAnyH_take (i := 7) (v := (.int .i64 k)) rfl (by kernel_rfl) (by kernel_rfl) (by kernel_rfl) (fun _ _ _ h => h) (Or.inl ⟨by rfl, fun wx hx => by go_simp⟩) hT0 ?_
        try dsimp only
        try simp only [Act.put, List.getElem_toArray, List.getElem_cons_succ, List.getElem_cons_zero, List.setIfInBounds_toArray, List.set_cons_zero, List.set_cons_succ]
        refine wpAnyH_take (i := 8) (v := (.pointer (some ⟨gi', oi' + k, none⟩))) rfl (by kernel_rfl) (by kernel_rfl) (by kernel_rfl) (fun _ _ _ h => h) (Or.inl ⟨by rfl, fun wx hx => by go_simp⟩) hT0 ?_
        try dsimp only
        try simp only [Act.put, List.getElem_toArray, List.getElem_cons_succ, List.getElem_cons_zero, List.setIfInBounds_toArray, List.set_cons_zero, List.set_cons_succ]
        refine wpAnyH_take (i := 9) (v := (.slice sp' sn' sc')) rfl (by kernel_rfl) (by kernel_rfl) (by kernel_rfl) (fun _ _ _ h => h) (Or.inl ⟨by rfl, fun wx hx => by have hx1 := hx.2.2.2; go_simp⟩) hT0 ?_
        try dsimp only
        try simp only [Act.put, List.getElem_toArray, List.getElem_cons_succ, List.getElem_cons_zero, List.setIfInBounds_toArray, List.set_cons_zero, List.set_cons_succ]
        refine wpAnyH_all (rs := [10]) (by kernel_rfl) (by simp) ?_
        intro jj hjj
        simp only [List.mem_cons, List.not_mem_nil, or_false] at hjj
        subst hjj
        refine wpOp_of_wp rfl rfl ?_
        go_simp
        refine (ksame_any (lvAt t D k) HOK'.out sp sp' sn' sc sc' wr.drew HIT.out.1 ((HIT.out.2.1.below HBW.out).below below_drew) ((HIT.out.2.2.below HBW.out).below below_drew) (by omega)).mono ?_
        rintro e w2 ⟨rfl, hb2⟩
        replace hb2 : Below wr.heap.size wr w2 := bnext below_drew hb2
        have hT1 : (fun w' : World => (w'.cell? ⟨w.heap.size, 0, none⟩ = some (.slice (some ⟨gi, oi, none⟩) N ic) ∧ w'.cell? ⟨w.heap.size + 1, 0, none⟩ = some (.slice (some ⟨gi', oi', none⟩) N ic') ∧ w'.cell? ⟨gi, oi + k, none⟩ = some (.slice sp sn' sc) ∧ w'.cell? ⟨gi', oi' + k, none⟩ = some (.slice sp' sn' sc'))) w2 := ⟨cell_keep hb2 a0, cell_keep hb2 b0, cell_keep hb2 ci, cell_keep hb2 ci'⟩
        refine ⟨hT1, ?_⟩
        try dsimp only
        try simp only [Act.put, List.getElem_toArray, List.getElem_cons_succ, List.getElem_cons_zero, List.setIfInBounds_toArray, List.set_cons_zero, List.set_cons_succ]
        refine wpAnyH_take (i := 11) (v := (.bool true)) rfl (by kernel_rfl) (by kernel_rfl) (by kernel_rfl) (fun _ _ _ h => h) (Or.inl ⟨by rfl, fun wx hx => by go_simp⟩) hT1 ?_
        try dsimp only
        try simp only [Act.put, List.getElem_toArray, List.getElem_cons_succ, List.getElem_cons_zero, List.setIfInBounds_toArray, List.set_cons_zero, List.set_cons_succ]
        refine wpAnyH_done (by kernel_rfl) ?_ _
        have HB2 : Hid (Below w0.heap.size w0 w2) := bnext HBk.out hb2
        have R1 := range_below hb2 (Nat.lt_of_lt_of_le hga HBW.out.size) HRA.out.1
        have R2 := range_below hb2 (Nat.lt_of_lt_of_le hga' HBW.out.size) HRA.out.2
        replace a1 := cell_keep hb2 a1
        replace b1 := cell_keep hb2 b1
        replace a2 := cell_keep hb2 a2
        replace b2 := cell_keep hb2 b2
        replace cm := cell_keep hb2 cm
        replace cm' := cell_keep hb2 cm'
        clear hT0 hT1 a0 b0 a3 b3 ci ci' hb2
        go_upto_region 6 with fail
        refine wp_region_still_lit mixed (by kernel_rfl) ?_
        repeat still_step
        refine still_load_an_mid (by rfl) _ rfl _ _ rfl AA an hAA (by exact R1) ?_
        repeat still_step
        refine still_load_an_mid (by rfl) _ rfl _ _ rfl AA an hAA (by exact R2) ?_
        refine still_neq_an (by rfl) _ _ _ rfl AA an hAA HOA'.out rfl rfl ?_
        repeat still_step
        refine wpStill_nil ?_
        clear R1 R2 a1 b1 a2 b2 cm cm'
        go_wp2
        go_roundw
        case rel => exact ⟨k + 1, by omega, by go_num, below_drawn HB2.out _⟩
        case measure => simp [intOf]; omega
    · obtain rfl : k = N := by omega
      clear a1 a2 b0 b1 b2
      go_wp2
      go_ret
      exact ⟨rfl, HBW.out⟩
end Go.Proofs.Ytpglbakcjihohab

/-! A sketch that comes in as an argument is twenty-eight cells, each a number that fits its kind. -/
namespace Go.Proofs.Ytpglbakcjihohab
open Go.RowKit
set_option maxRecDepth 100000

theorem cellsSk : Try.prog.cellsOf 59 = 28 := by kernel_rfl
theorem cellsU16 : Try.prog.cellsOf 54 = 1 := by kernel_rfl
theorem cellsU32 : Try.prog.cellsOf 55 = 1 := by kernel_rfl
theorem cellsI32 : Try.prog.cellsOf 21 = 1 := by kernel_rfl
theorem cellsU8 : Try.prog.cellsOf 5 = 1 := by kernel_rfl
theorem cellsRegs : Try.prog.cellsOf 56 = 16 := by kernel_rfl
theorem cellsHist : Try.prog.cellsOf 57 = 8 := by kernel_rfl

theorem one_of_drop {cs : List Value} {i : Nat} {v : Value} (h : (cs.drop i).take 1 = [v]) : cs[i]? = some v := by
  have := congrArg (fun l => l[0]?) h
  simpa [List.getElem?_take, List.getElem?_drop] using this

section
variable {H : Type} {enc : TypeId × Value → H} {w : World} {base : Nat} {spare : Nat → Bool} {held : Bool}

/-- One cell of an integer kind. -/
theorem cell_int {fuel : Nat} {t : TypeId} {k : IntKind} {cs : List Value} {i : Nat} {x : DataW H × List MemPlace} (ht : Try.prog.underlying t = some (.int k))
    (h : DataW.trod enc Try.prog w base spare held fuel t ((cs.drop i).take 1) = some x) : ∃ n, cs[i]? = some (.int k n) ∧ (Lit.int k n).wf = true := by
  obtain ⟨n, e, _, hw⟩ := DataW.trod_int ht h
  exact ⟨n, one_of_drop e, hw⟩

/-- A row of bytes from offset o on. -/
theorem cells_bytes {fuel : Nat} {t : TypeId} {m o : Nat} {cs : List Value} {x : DataW H × List MemPlace} (ht : Try.prog.underlying t = some (.array m 5))
    (h : DataW.trod enc Try.prog w base spare held fuel t ((cs.drop o).take m) = some x) :
    ∀ i, i < m → ∃ n, cs[o + i]? = some (.int .u8 n) ∧ (Lit.int .u8 n).wf = true := by
  obtain ⟨xs, f, _, _, _, hlen, hx⟩ := DataW.trod_array ht h
  intro i hi
  have h1 := hx i hi
  rw [cellsU8, Nat.mul_one, List.getElem?_eq_getElem (by omega)] at h1
  obtain ⟨n, e, hw⟩ := cell_int (k := .u8) Try.underlying5 h1
  refine ⟨n, ?_, hw⟩
  rw [List.getElem?_take, if_pos hi, List.getElem?_drop] at e
  exact e

theorem open_sk {fuel : Nat} {cs : List Value} {x : DataW H × List MemPlace} (h : DataW.trod enc Try.prog w base spare held fuel 59 cs = some x) :
    ∃ s : Sk, IsSk cs.toArray s ∧ s.Ok := by
  obtain ⟨xs, n, _, _, hl, hlen, hf⟩ := DataW.trod_struct Try.underlying59 h
  have hlen' : xs.length = 6 := hlen
  rw [cellsSk] at hl
  have g0 : DataW.trod enc Try.prog w base spare held n 54 ((cs.drop 0).take (Try.prog.cellsOf 54)) = xs[0]? := hf 0 _ rfl
  have g1 : DataW.trod enc Try.prog w base spare held n 55 ((cs.drop 1).take (Try.prog.cellsOf 55)) = xs[1]? := hf 1 _ rfl
  have g2 : DataW.trod enc Try.prog w base spare held n 21 ((cs.drop 2).take (Try.prog.cellsOf 21)) = xs[2]? := hf 2 _ rfl
  have g3 : DataW.trod enc Try.prog w base spare held n 21 ((cs.drop 3).take (Try.prog.cellsOf 21)) = xs[3]? := hf 3 _ rfl
  have g4 : DataW.trod enc Try.prog w base spare held n 56 ((cs.drop 4).take (Try.prog.cellsOf 56)) = xs[4]? := hf 4 _ rfl
  have g5 : DataW.trod enc Try.prog w base spare held n 57 ((cs.drop 20).take (Try.prog.cellsOf 57)) = xs[5]? := hf 5 _ rfl
  rw [cellsU16] at g0
  rw [cellsU32] at g1
  rw [cellsI32] at g2 g3
  rw [cellsRegs] at g4
  rw [cellsHist] at g5
  rw [List.getElem?_eq_getElem (by omega)] at g0 g1 g2 g3 g4 g5
  obtain ⟨c, e0, w0⟩ := cell_int (k := .u16) Try.underlying54 g0
  obtain ⟨s, e1, w1⟩ := cell_int (k := .u32) Try.underlying55 g1
  obtain ⟨l, e2, w2⟩ := cell_int (k := .i32) Try.underlying21 g2
  obtain ⟨g, e3, w3⟩ := cell_int (k := .i32) Try.underlying21 g3
  have hr := cells_bytes (o := 4) Try.underlying56 g4
  have hh := cells_bytes (o := 20) Try.underlying57 g5
  clear g0 g1 g2 g3 g4 g5 hf hlen hlen'
  have b0 := bounds_u16 w0
  have b1 := bounds_u32 w1
  have b2 := bounds_i32 w2
  have b3 := bounds_i32 w3
  refine ⟨⟨c, s, l, g, fun k => if k < 16 then intOf (cs.getD (4 + k) undef) else 0, fun k => if k < 8 then intOf (cs.getD (20 + k) undef) else 0⟩, ?_, ?_⟩
  · show cs.toArray = _
    apply Array.ext_getElem?
    intro i
    by_cases hi : i < 28
    · rw [Sk.get _ i hi]
      rw [List.getElem?_toArray]
      by_cases h0 : i = 0
      · subst h0; rw [e0]; rfl
      by_cases h1 : i = 1
      · subst h1; rw [e1]; rfl
      by_cases h2 : i = 2
      · subst h2; rw [e2]; rfl
      by_cases h3 : i = 3
      · subst h3; rw [e3]; rfl
      by_cases h4 : i < 20
      · obtain ⟨n, en, _⟩ := hr (i - 4) (by omega)
        rw [show 4 + (i - 4) = i by omega] at en
        have hx : i - 4 < 16 := by omega
        rw [en]
        simp [Sk.at, h0, h1, h2, h3, h4, hx, show 4 + (i - 4) = i by omega, List.getD, en, intOf]
      · obtain ⟨n, en, _⟩ := hh (i - 20) (by omega)
        rw [show 20 + (i - 20) = i by omega] at en
        have hx : i - 20 < 8 := by omega
        rw [en]
        simp [Sk.at, h0, h1, h2, h3, h4, hx, show 20 + (i - 20) = i by omega, List.getD, en, intOf]
    · rw [Array.getElem?_eq_none (by simp; omega), Array.getElem?_eq_none (by rw [Sk.size_cells]; omega)]
  · have rb : ∀ k, 0 ≤ (if k < 16 then intOf (cs.getD (4 + k) undef) else 0) ∧ (if k < 16 then intOf (cs.getD (4 + k) undef) else 0) ≤ 255 := fun k => by
      split
      · rename_i hk
        obtain ⟨n, en, wn⟩ := hr k hk
        have := bounds_u8 wn
        simp only [List.getD, en, Option.getD_some, intOf]; omega
      · omega
    have hb : ∀ k, 0 ≤ (if k < 8 then intOf (cs.getD (20 + k) undef) else 0) ∧ (if k < 8 then intOf (cs.getD (20 + k) undef) else 0) ≤ 255 := fun k => by
      split
      · rename_i hk
        obtain ⟨n, en, wn⟩ := hh k hk
        have := bounds_u8 wn
        simp only [List.getD, en, Option.getD_some, intOf]; omega
      · omega
    exact ⟨by simp only []; omega, by simp only []; omega, by simp only []; omega, by simp only []; omega, by simp only []; omega, by simp only []; omega, by simp only []; omega, by simp only []; omega, fun k => (rb k).1, fun k => (rb k).2, fun k => (hb k).1, fun k => (hb k).2⟩

/-- The argument, opened. -/
theorem arg_sk {r : Reach} {b0 : Nat} {v : Value} {d : DataW H} {p : List MemPlace} (hv : Value.okWide Try.prog w r b0 59 v) (h : DataW.Trod enc Try.prog w base spare held 59 v d p) :
    ∃ (A : Array Value) (s : Sk), v = .agg A ∧ IsSk A s ∧ s.Ok := by
  obtain ⟨cs, rfl, _⟩ := WideShapes.okWide_struct Try.underlying59 hv
  obtain ⟨fuel, hf⟩ := h
  obtain ⟨s, hs, ok⟩ := open_sk hf
  exact ⟨cs, s, rfl, by simpa [Value.cells] using hs, ok⟩
end
end Go.Proofs.Ytpglbakcjihohab

/-! A list of numbers and a script of plain steps that come in as arguments, opened: their cells in memory, and that all of them fit. -/
namespace Go.Proofs.Ytpglbakcjihohab
open Go.RowKit
set_option maxRecDepth 100000

/-! ### Steps -/
structure KSt where
  kind : Int
  a : Int
  b : Int
  key : ByteArray
  v : Int
def KSt.cells (x : KSt) : List Value := [.int .i64 x.kind, .int .i64 x.a, .int .i64 x.b, .string x.key, .int .i32 x.v]
abbrev clKs : Cl KSt := ⟨KSt.cells, 5, by decide, fun _ => rfl, fun _ v hv => by
  simp only [KSt.cells, List.mem_cons, List.not_mem_nil, or_false] at hv
  rcases hv with rfl | rfl | rfl | rfl | rfl <;> rfl⟩
def KSt.arr (x : KSt) : Array Value := #[.int .i64 x.kind, .int .i64 x.a, .int .i64 x.b, .string x.key, .int .i32 x.v]
structure KSt.Ok (x : KSt) : Prop where
  kind : fitsI x.kind
  a : fitsI x.a
  b : fitsI x.b
  key : x.key.size ≤ maxLen
  v0 : -2147483648 ≤ x.v
  v1 : x.v ≤ 2147483647
theorem info_kst : (Try.prog.info? 49).map (·.size) = some 5 := by kernel_rfl
section
variable {ops : Array Oper} {rest : List Oper} {o : Oper} {a : Act} {w : World} {Q : Exit → Act → World → Prop}
theorem load_kst_mid (hgd : o.guard = none) (x : Operand) (ho : o.op = .load 49 x) (g off : Nat) (hx : a.eval x = .pointer (some ⟨g, off, none⟩)) (s : KSt)
    (hg : w.rangeAt g off (clKs.cells s)) (h : wpList Try.prog ops Q rest (a.put o.dst (.agg #[.int .i64 s.kind, .int .i64 s.a, .int .i64 s.b, .string s.key, .int .i32 s.v])) w) : wpList Try.prog ops Q (o :: rest) a w :=
  wpList_step fun K hK => by
    rw [if_pos (by unfold Region.wanted; rw [hgd])]
    have hl := run_loadVar_mid (P := Try.prog) w g off 49 (clKs.cells s) _ hg Try.underlying49 rfl (by rw [Cl.len]; exact info_kst)
    unfold Oper.wp execOp
    simp only [ho, hx, Instr.loadAt, Instr.sureAddr, Sem.run_bind, Sem.run_pure, Result.andThen_ok, hl]
    exact hK _ _ h
end
/-! ### Arguments -/
theorem bulk_pos {H : Type} (d : DataW H) : 1 ≤ Rows.uptoBulk d := by
  cases d with
  | lit l => cases l <;> simp [Rows.uptoBulk]
  | _ => simp [Rows.uptoBulk]
theorem bulk_mem {H : Type} {d : DataW H} {l : List (DataW H)} (h : d ∈ l) : Rows.uptoBulk d ≤ Rows.uptoBulkAll l := by
  induction l with
  | nil => cases h
  | cons y r ih =>
    simp only [Rows.uptoBulkAll]
    rcases List.mem_cons.1 h with e | e
    · subst e; omega
    · have := ih e; omega
theorem bulk_len {H : Type} (l : List (DataW H)) : l.length ≤ Rows.uptoBulkAll l := by
  induction l with
  | nil => simp
  | cons y r ih => have := bulk_pos y; simp only [Rows.uptoBulkAll, List.length_cons]; omega
section
variable {H : Type} {enc : TypeId × Value → H} {w : World}
/-- A slice whose elements are all of one shape. -/
theorem open_rows {α : Type} {C : Cl α} {t e : TypeId} {fuel : Nat} {cs : List Value} {x : DataW H × List MemPlace} (R : DataW H → α → Prop) (ht : Try.prog.underlying t = some (.slice e)) (hc : Try.prog.cellsOf e = C.size)
    (each : ∀ n cs' y, DataW.trod enc Try.prog w 0 (fun _ => true) true n e cs' = some y → ∃ a : α, cs' = C.cells a ∧ R y.1 a) (h : DataW.trod enc Try.prog w 0 (fun _ => true) true fuel t cs = some x) :
    ∃ (p : Option Addr) (n c : Nat) (l : List α), cs = [.slice p n c] ∧ l.length = n ∧ RowsAt C w p l ∧ n ≤ Rows.uptoBulk x.1 ∧ ∀ a ∈ l, ∃ d, R d a ∧ Rows.uptoBulk d ≤ Rows.uptoBulk x.1 := by
  rcases Deep.open_slice ht h with ⟨rfl, rfl⟩ | ⟨a, len, cap, m, n, D, Pl, rfl, hb, hl, hm, hmm, rfl, hx⟩
  · exact ⟨none, 0, 0, [], rfl, rfl, .inl rfl, by simp, fun a ha => by simp at ha⟩
  · simp only [if_true] at hmm
    subst hmm
    rw [hc] at hx
    have each' : ∀ i, i < len → ∃ b : α, w.cells? 0 (a.add (i * C.size)) (C.size) = some (C.cells b) ∧ R (D i) b := fun i hi => by
      obtain ⟨cs', h1, h2⟩ := hx i (by omega)
      obtain ⟨b, rfl, hR⟩ := each _ _ _ h2
      exact ⟨b, h1, hR⟩
    let f : Fin len → α := fun i => Classical.choose (each' i.1 i.2)
    have hf : ∀ (i : Nat) (hi : i < len), w.cells? 0 (a.add (i * C.size)) (C.size) = some (C.cells (f ⟨i, hi⟩)) ∧ R (D i) (f ⟨i, hi⟩) := fun i hi => Classical.choose_spec (each' i hi)
    have hle : Rows.uptoBulkAll ((List.range len).map D) ≤ Rows.uptoBulk (DataW.slice ((List.range len).map D) ((List.range (m - len)).map fun j => D (len + j))) := by simp only [Rows.uptoBulk]; omega
    refine ⟨some a, len, m, List.ofFn f, rfl, by simp, ?_, ?_, fun b hb => ?_⟩
    · by_cases h0 : len = 0
      · left; subst h0; rfl
      · right
        obtain ⟨b, off, spot⟩ := a
        have h1 := (World.cells?_some (hf 0 (by omega)).1).2.2 0 (Cl.pos (C := C))
        obtain ⟨v0, hv0⟩ : ∃ v0, (C.cells (f ⟨0, by omega⟩) : List Value)[0]? = some v0 := ⟨_, List.getElem?_eq_getElem (by rw [Cl.len (f ⟨0, by omega⟩)]; exact Cl.pos (C := C))⟩
        rw [hv0] at h1
        have hspot : spot = none := by simpa [Addr.add] using World.cell?_spot h1
        subst hspot
        have hbl : b < w.heap.size := by have := block_lt_of_cell h1; simpa [Addr.add] using this
        refine ⟨b, off, rfl, hbl, fun i y hy j v hv => ?_⟩
        obtain ⟨hi, e⟩ := List.getElem?_eq_some_iff.1 hy
        have hi' : i < len := by simpa using hi
        have ey : f ⟨i, hi'⟩ = y := by rw [← e]; simp
        have hj : j < C.size := by rw [← Cl.len y]; exact (List.getElem?_eq_some_iff.1 hv).1
        have h2 := (World.cells?_some (hf i hi').1).2.2 j hj
        rw [ey, hv, Addr.add_mid, Addr.add_mid] at h2
        exact h2
    · have h1 := bulk_len ((List.range len).map D)
      rw [List.length_map, List.length_range] at h1
      exact Nat.le_trans h1 hle
    · obtain ⟨i, hi⟩ := List.getElem?_of_mem hb
      obtain ⟨hi1, e⟩ := List.getElem?_eq_some_iff.1 hi
      have hi' : i < len := by simpa using hi1
      refine ⟨D i, ?_, Nat.le_trans (bulk_mem (List.mem_map.2 ⟨i, by simpa using hi', rfl⟩)) hle⟩
      have ey : f ⟨i, hi'⟩ = b := by rw [← e]; simp
      rw [← ey]; exact (hf i hi').2
theorem cellsInt : Try.prog.cellsOf 3 = 1 := by kernel_rfl
theorem cellsKst : Try.prog.cellsOf 49 = 5 := by kernel_rfl
theorem cellsStr' : Try.prog.cellsOf 9 = 1 := by kernel_rfl
theorem cell_str {fuel : Nat} {cs : List Value} {i : Nat} {x : DataW H × List MemPlace} (h : DataW.trod enc Try.prog w 0 (fun _ => true) true fuel 9 ((cs.drop i).take 1) = some x) : ∃ s : ByteArray, cs[i]? = some (.string s) ∧ s.size ≤ maxLen := by
  obtain ⟨n, e, _, hn⟩ := DataW.trod_string Try.underlying9 h
  exact ⟨n, one_of_drop e, hn⟩
theorem list4 {cs : List Value} {a b c d : Value} (h0 : cs[0]? = some a) (h1 : cs[1]? = some b) (h2 : cs[2]? = some c) (h3 : cs[3]? = some d) : cs = a :: b :: c :: d :: cs.drop 4 := by
  match cs, h0, h1, h2, h3 with
  | [], h0, _, _, _ => simp at h0
  | [_], _, h1, _, _ => simp at h1
  | [_, _], _, _, h2, _ => simp at h2
  | [_, _, _], _, _, _, h3 => simp at h3
  | w :: x :: y :: z :: r, h0, h1, h2, h3 => simp at h0 h1 h2 h3 ⊢; exact ⟨h0, h1, h2, h3⟩
theorem open_num {fuel : Nat} {cs : List Value} {y : DataW H × List MemPlace} (h : DataW.trod enc Try.prog w 0 (fun _ => true) true fuel 3 cs = some y) : ∃ a : Int, cs = clInt.cells a ∧ fitsI a := by
  obtain ⟨n, e, _, hw⟩ := DataW.trod_int Try.underlying3 h
  exact ⟨n, e, bounds_i64 hw⟩
theorem open_kstep {fuel : Nat} {cs : List Value} {y : DataW H × List MemPlace} (h : DataW.trod enc Try.prog w 0 (fun _ => true) true fuel 49 cs = some y) : ∃ a : KSt, cs = clKs.cells a ∧ a.Ok := by
  obtain ⟨xs, n, _, hy, hl, hlen, hf⟩ := DataW.trod_struct Try.underlying49 h
  have hlen' : xs.length = 5 := hlen
  rw [cellsKst] at hl
  have g0 : DataW.trod enc Try.prog w 0 (fun _ => true) true n 3 ((cs.drop 0).take (Try.prog.cellsOf 3)) = xs[0]? := hf 0 _ rfl
  have g1 : DataW.trod enc Try.prog w 0 (fun _ => true) true n 3 ((cs.drop 1).take (Try.prog.cellsOf 3)) = xs[1]? := hf 1 _ rfl
  have g2 : DataW.trod enc Try.prog w 0 (fun _ => true) true n 3 ((cs.drop 2).take (Try.prog.cellsOf 3)) = xs[2]? := hf 2 _ rfl
  have g3 : DataW.trod enc Try.prog w 0 (fun _ => true) true n 9 ((cs.drop 3).take (Try.prog.cellsOf 9)) = xs[3]? := hf 3 _ rfl
  have g4 : DataW.trod enc Try.prog w 0 (fun _ => true) true n 21 ((cs.drop 4).take (Try.prog.cellsOf 21)) = xs[4]? := hf 4 _ rfl
  rw [cellsInt] at g0 g1 g2
  rw [cellsStr'] at g3
  rw [cellsI32] at g4
  rw [List.getElem?_eq_getElem (by omega)] at g0 g1 g2 g3 g4
  obtain ⟨a0, e0, w0⟩ := cell_int (k := .i64) Try.underlying3 g0
  obtain ⟨a1, e1, w1⟩ := cell_int (k := .i64) Try.underlying3 g1
  obtain ⟨a2, e2, w2⟩ := cell_int (k := .i64) Try.underlying3 g2
  obtain ⟨a3, e3, w3⟩ := cell_str g3
  obtain ⟨a4, e4, w4⟩ := cell_int (k := .i32) Try.underlying21 g4
  refine ⟨⟨a0, a1, a2, a3, a4⟩, ?_, ⟨bounds_i64 w0, bounds_i64 w1, bounds_i64 w2, w3, (bounds_i32 w4).1, (bounds_i32 w4).2⟩⟩
  rw [list4 e0 e1 e2 e3]
  have hd : cs.drop 4 = [.int .i32 a4] := by
    have h4 : (cs.drop 4)[0]? = some (.int .i32 a4) := by simpa [List.getElem?_drop] using e4
    have hlen4 : (cs.drop 4).length = 1 := by simp; omega
    match hc : cs.drop 4, h4, hlen4 with
    | [z], h4, _ => simpa using h4
  rw [hd]; rfl
/-- Numbers, opened. -/
theorem arg_ints {r : Reach} {b0 : Nat} {v : Value} {d : DataW H} {p : List MemPlace} (hv : Value.okWide Try.prog w r b0 22 v) (h : DataW.Trod enc Try.prog w 0 (fun _ => true) true 22 v d p) :
    ∃ (a : Option Addr) (n c : Nat) (l : List Int), v = .slice a n c ∧ l.length = n ∧ RowsAt clInt w a l ∧ n ≤ Rows.uptoBulk d ∧ ∀ x ∈ l, fitsI x := by
  obtain ⟨a, n, cap, rfl⟩ := WideShapes.okWide_slice Try.underlying22 hv
  obtain ⟨fuel, hf⟩ := h
  obtain ⟨a', n', c', l, e, h1, h2, h3, h4⟩ := open_rows (C := clInt) (fun _ a => fitsI a) Try.underlying22 cellsInt (fun _ _ _ h => open_num h) hf
  simp [Value.cells] at e
  obtain ⟨rfl, rfl, rfl⟩ := e
  exact ⟨_, _, _, l, rfl, h1, h2, h3, fun x hx => (h4 x hx).elim fun _ h => h.1⟩
/-- A script, opened. -/
theorem arg_kscript {r : Reach} {b0 : Nat} {v : Value} {d : DataW H} {p : List MemPlace} (hv : Value.okWide Try.prog w r b0 23 v) (h : DataW.Trod enc Try.prog w 0 (fun _ => true) true 23 v d p) :
    ∃ (a : Option Addr) (n c : Nat) (l : List KSt), v = .slice a n c ∧ l.length = n ∧ RowsAt clKs w a l ∧ n ≤ Rows.uptoBulk d ∧ ∀ x ∈ l, x.Ok := by
  obtain ⟨a, n, cap, rfl⟩ := WideShapes.okWide_slice Try.underlying23 hv
  obtain ⟨fuel, hf⟩ := h
  obtain ⟨a', n', c', l, e, h1, h2, h3, h4⟩ := open_rows (C := clKs) (fun _ a => a.Ok) Try.underlying23 cellsKst (fun _ _ _ h => open_kstep h) hf
  simp [Value.cells] at e
  obtain ⟨rfl, rfl, rfl⟩ := e
  exact ⟨_, _, _, l, rfl, h1, h2, h3, fun x hx => (h4 x hx).elim fun _ h => h.1⟩
end
end Go.Proofs.Ytpglbakcjihohab

/-! A store is opened; a run's first state. -/
namespace Go.Proofs.Ytpglbakcjihohab
open Go.RowKit
set_option maxRecDepth 100000

set_option maxHeartbeats 2000000 in
theorem kopened_any (SR : SRT) (R : PR SR) (t : List Int) (hT : Tree t) (wid : Int) (h0 : 1 ≤ wid) (h1 : wid ≤ 1000) (p : Option Addr) (n c : Nat) (w : World) (hn : t.length = n) (hr : RowsAt clInt w p t) :
    Calls Try.prog 8 #[.slice p n c, .int .i64 wid] w fun e w' => Below w.heap.size w w' ∧ ∃ bs, e = .returned (.pointer (some ⟨bs, 0, none⟩)) ∧ ∀ (own : Ghost) (B0 : Nat), B0 ≤ w.heap.size → ∃ own', SR w' own' B0 bs t wid (List.replicate t.length Nd.zero) ∧ Same w own own' := by
  have h8 := hT.le
  have HRW : Hid (RowsAt clInt w p t) := hr
  have HR : Hid (PR SR) := R
  have HE : Hid (newE t wid = 0) := by unfold Hid newE; rw [if_pos ((isTr_iff t).2 hT), if_pos (by simp [isWid]; omega)]
  clear hr R
  go_enter Try.func8, Try.ntmps8
  go_wp2_with (first | (go_at_call 24; refine (kcopied_any t p n c _ hn HRW.out (by omega)).mono ?_; rintro e w1 ⟨q, cc, rfl, hr1, _, hb1⟩; have HR1 : Hid (RowsAt clInt w1 q t) := hr1; have HB1 : Hid (Below w.heap.size w w1) := hb1; clear hr1 hb1) | (go_at_call 23; refine (HR.out.new t _ n _ wid w1 hn HR1.out (by omega) ⟨by omega, by omega⟩).mono ?_; rintro e w2 ⟨hb2, h2⟩; obtain ⟨_, bs, rfl, hsr⟩ := h2.resolve_right (fun x => x.1 HE.out); have HS : Hid (∀ (own : Ghost) (B0 : Nat), B0 ≤ w1.heap.size → ∃ own', SR w2 own' B0 bs t wid (List.replicate t.length Nd.zero) ∧ Same w1 own own') := hsr; have HB2 : Hid (Below w1.heap.size w1 w2) := hb2; clear h2 hsr hb2))
  go_ret
  have hs1 := HB1.out.size
  refine ⟨bnext HB1.out HB2.out, bs, rfl, fun own B0 hB => ?_⟩
  obtain ⟨own', a1, a2⟩ := HS.out own B0 (by omega)
  exact ⟨own', a1, fun k hk hf => a2 k (by omega) hf⟩
/-! ### A run begins -/
def SrcC.zero : SrcC := ⟨fun _ => ⟨none, 0, 0⟩, fun _ => 0, fun _ => false, fun _ => false, 0, 0⟩
theorem zeros_src : ((Try.prog.info? 87).bind (·.zero)).map (·.cells.toList) = some (clSrc.cells SrcC.zero) := by kernel_rfl
theorem rep_get' {k N : Nat} {d : Nd} (h : (List.replicate N Nd.zero)[k]? = some d) : d = Nd.zero := by
  obtain ⟨hk, e⟩ := List.getElem?_eq_some_iff.1 h
  rw [← e]; simp
theorem evK_nil (k : Int) : evK [] k = [] := rfl
theorem kbeg_done {SR : SRT} (R : PR SR) {t : List Int} (hT : Tree t) {wid : Int} (h0 : 1 ≤ wid) (h1 : wid ≤ 1000) {w w1 w2 w3 : World} {vt : Sl} {bs : Nat} (o1 : Own clInt w1 w.heap.size 3 vt.val t) (b1 : Below w.heap.size w w1) (hsr : ∀ (own : Ghost) (B0 : Nat), B0 ≤ w1.heap.size → ∃ own', SR w2 own' B0 bs t wid (List.replicate t.length Nd.zero) ∧ Same w1 own own') (b2 : Below w1.heap.size w1 w2) {n : Nat} (hn : t.length = n)
    (o3 : Own clSrc w3 w2.heap.size 87 (.slice (some ⟨w2.heap.size, 0, none⟩) n n) (List.replicate n SrcC.zero)) (g3 : w2.grownBy w3 none) :
    ∃ own', KX SR w.heap.size w3.heap.size bs t wid 0 (List.replicate t.length Nd.zero) [] (w3.alloc (.cells #[.pointer (some ⟨bs, 0, none⟩), vt.val, .int .i64 wid, .slice (some ⟨w2.heap.size, 0, none⟩) n n, .slice none 0 0] 31)) own' ∧ (∀ k, k < w.heap.size → own' k = .arg) := by
  have s1 := b1.size
  have s2 := b2.size
  have s3 := g3.size
  obtain ⟨wz, hwz⟩ : ∃ wz, wz = w3.alloc (.cells #[.pointer (some ⟨bs, 0, none⟩), vt.val, .int .i64 wid, .slice (some ⟨w2.heap.size, 0, none⟩) n n, .slice none 0 0] 31) := ⟨_, rfl⟩
  have bz : Below w3.heap.size w3 wz := by rw [hwz]; exact below_alloc _ _
  have b3 : Below w2.heap.size w2 w3 := grown_below g3 _ (Nat.le_refl _) (fun _ h => by cases h)
  have gz : wz.heap[w3.heap.size]? = some (.cells #[.pointer (some ⟨bs, 0, none⟩), vt.val, .int .i64 wid, .slice (some ⟨w2.heap.size, 0, none⟩) n n, .slice none 0 0] 31) := by rw [hwz]; exact heap_alloc_new _ _
  rw [← hwz]
  obtain ⟨own2, hs2, sm2⟩ := hsr (fun k => if vt.val.ownBlock = some k then .wd 0 else if k < w.heap.size then .arg else .free) w.heap.size s1
  have hlt : ∀ k, vt.val.ownBlock = some k → w.heap.size ≤ k ∧ k < w1.heap.size := fun k hk => o1.lt k hk
  have ho2 : ∀ k, vt.val.ownBlock = some k → own2 k = .wd 0 := fun k hk => by
    have := sm2 k (hlt k hk).2 (by simp only [if_pos hk]; simp)
    rw [this]; simp only [if_pos hk]
  have ha2 : ∀ k, k < w.heap.size → own2 k = .arg := fun k hk => by
    have hne : vt.val.ownBlock ≠ some k := fun e => by have := (hlt k e).1; omega
    have := sm2 k (by omega) (by simp only [if_neg hne, if_pos hk]; simp)
    rw [this]; simp only [if_neg hne, if_pos hk]
  let own3 : Ghost := fun k => if k = w2.heap.size then .wd 1 else if k = w3.heap.size then .gm else own2 k
  have hlt3 : w2.heap.size < w3.heap.size := (o3.lt w2.heap.size rfl).2
  have e3 : ∀ k, k < w2.heap.size → own3 k = own2 k := fun k hk => by simp only [own3]; rw [if_neg (by omega), if_neg (by omega)]
  have f3 : ∀ S : Tag → Prop, Fr own2 S w2 wz := fun S => Fr.of_below (bnext b3 bz)
  refine ⟨own3, ⟨vt, ⟨some ⟨w2.heap.size, 0, none⟩, n, n⟩, ⟨none, 0, 0⟩, List.replicate n SrcC.zero, [], hT, h0, h1, gz, ?_, ?_, R.chg hs2 (f3 (fun _ => False)) (fun k hk _ => e3 k hk) (fun _ h => h), ?_, ?_, ?_, ?_, by simp [hn], fun k c d hc hd => ?_, Own.nil _ _ _, (fun k hk => by cases hk), rfl, (fun i x p hx => by simp at hx), inv_zero t, fun k d hk => ?_, fun k d hk => ?_, by simp⟩, fun k hk => ?_⟩
  · simp only [own3]; rw [if_neg (by omega), if_pos trivial]
  · have := bz.size; omega
  · exact ((o1.below b2).below b3).below bz
  · intro k hk; rw [e3 k (by have := (hlt k hk).2; omega)]; exact ho2 k hk
  · exact (o3.mono (by omega)).below bz
  · intro k hk; obtain rfl : w2.heap.size = k := Option.some.inj hk; simp only [own3]; rw [if_pos trivial]
  · obtain ⟨hk, ec⟩ := List.getElem?_eq_some_iff.1 hc
    rw [rep_get' hd, ← ec]
    simp only [List.getElem_replicate]
    exact ⟨fun v _ => Own.nil _ _ _, (fun v _ k hk => by cases hk), fun v _ => rfl, fun v _ => rfl, fun v _ => rfl, rfl, rfl⟩
  · rw [rep_get' hk]; exact ⟨by simp [Nd.zero], by simp [Nd.zero], Good.nil, Good.nil⟩
  · rw [rep_get' hk]; exact ⟨(fun i e he => by simp [Nd.zero] at he), (fun i e he => by simp [Nd.zero] at he), by simp [Nd.zero], by simp [Nd.zero]; omega, by simp [Nd.zero], by simp [Nd.zero]; omega⟩
  · rw [e3 k (by omega)]; exact ha2 k hk
end Go.Proofs.Ytpglbakcjihohab

/-! A run begins. -/
namespace Go.Proofs.Ytpglbakcjihohab
open Go.RowKit
set_option maxRecDepth 100000

def widK (x : Int) : Int := 1 + pk x 1000
set_option maxHeartbeats 4000000 in
theorem kbegan_any (SR : SRT) (R : PR SR) (raw : List Int) (hf : ∀ x ∈ raw, fitsI x) (p : Option Addr) (n c : Nat) (wd : Int) (hwd : fitsI wd) (w : World) (hn : raw.length = n) (hr : RowsAt clInt w p raw) (hm : n ≤ 1000000000) :
    Calls Try.prog 6 #[.slice p n c, .int .i64 wd] w fun e w' => Below w.heap.size w w' ∧ ∃ bk bs own', e = .returned (.pointer (some ⟨bk, 0, none⟩)) ∧ KX SR w.heap.size bk bs (trK raw) (widK wd) 0 (List.replicate (trK raw).length Nd.zero) [] w' own' ∧ ∀ k, k < w.heap.size → own' k = .arg := by
  have HRW : Hid (RowsAt clInt w p raw) := hr
  have HR : Hid (PR SR) := R
  have HF : Hid (∀ x ∈ raw, fitsI x) := hf
  have HT : Hid (Tree (trK raw)) := trK_tree raw
  have h8 := (trK_tree raw).le
  obtain ⟨N, hN⟩ : ∃ N, (trK raw).length = N := ⟨_, rfl⟩
  have HN : Hid ((trK raw).length = N) := hN
  have hN8 : N ≤ 8 := by omega
  have hpk := pk_bd wd 1000 (by omega)
  have hW0 : 1 ≤ widK wd ∧ widK wd ≤ 1000 := by unfold widK; omega
  have ew : IntKind.i64.wrap (1 + pk wd 1000) = widK wd := IntWalk.i64_in _ ⟨by omega, by omega⟩
  obtain ⟨W, hW⟩ : ∃ W, W = widK wd := ⟨_, rfl⟩
  rw [← hW] at ew hW0 ⊢
  clear hr R hf hN hW
  go_enter Try.func6, Try.ntmps6
  go_wp2_with (first | (go_at_call 25; refine (ktree_any raw HF.out p n c _ hn HRW.out (by omega)).mono ?_; rintro e w1 ⟨v1, rfl, ho1, hb1⟩; obtain ⟨q, cc, rfl⟩ : ∃ q cc, v1 = .slice q N cc := (by obtain ⟨p', c', e, _⟩ := ho1.form; exact ⟨p', c', by rw [e, HN.out]⟩); have HO1 : Hid (Own clInt w1 w.heap.size 3 (.slice q N cc) (trK raw)) := ho1; have HB1 : Hid (Below w.heap.size w w1) := hb1; clear ho1 hb1) | (go_at_call 10; refine (pick_any wd 1000 _ hwd.1 hwd.2 (by omega) (by omega)).mono ?_; rintro e wA ⟨rfl, hwA⟩; have hwA := hwA.symm; subst hwA) | (go_at_call 8; refine (kopened_any SR HR.out (trK raw) HT.out W hW0.1 hW0.2 q N cc w1 HN.out (Own.sl (s := ⟨q, N, cc⟩) HO1.out).2).mono ?_; rintro e w2 ⟨hb2, bs, rfl, hsr⟩; have HS : Hid (∀ (own : Ghost) (B0 : Nat), B0 ≤ w1.heap.size → ∃ own', SR w2 own' B0 bs (trK raw) W (List.replicate (trK raw).length Nd.zero) ∧ Same w1 own own') := hsr; have HB2 : Hid (Below w1.heap.size w1 w2) := hb2; clear hsr hb2) | (refine wpList_make_cl rfl _ _ _ _ 696 slSrc rfl SrcC.zero zeros_src w2.heap.size N _ rfl rfl (by rfl) (by simp only [maxLen]; omega) (by omega) (Nat.le_refl _) ?_; intro w3 ho3 hg3; have HO3 : Hid (Own clSrc w3 w2.heap.size 87 (.slice (some ⟨w2.heap.size, 0, none⟩) N N) (List.replicate N SrcC.zero)) := ho3; have HG3 : Hid (w2.grownBy w3 none) := hg3; clear ho3 hg3))
  go_ret
  obtain ⟨own', a1, a2⟩ := kbeg_done HR.out HT.out hW0.1 hW0.2 (vt := ⟨q, N, cc⟩) HO1.out HB1.out HS.out HB2.out HN.out HO3.out HG3.out
  exact ⟨bnext (bnext (bnext HB1.out HB2.out) (grown_below HG3.out _ (Nat.le_refl _) (fun _ h => by cases h))) (below_alloc _ _), _, bs, own', rfl, a1, a2⟩
end Go.Proofs.Ytpglbakcjihohab

/-! The statements that play plain steps: the walk of a script; Exact. -/
namespace Go.Proofs.Ytpglbakcjihohab
open Go.RowKit
set_option maxRecDepth 100000

/-- A run behind i steps; all that was there when it began is as it was. -/
def KP (SR : SRT) (t : List Int) (wid : Int) (w : World) (bk bs m : Nat) (D : List Nd) (A : List (Int × List It)) (wr : World) : Prop := ∃ own', KX SR w.heap.size bk bs t wid m D A wr own' ∧ (∀ k, k < w.heap.size → own' k = .arg) ∧ Below w.heap.size w wr
theorem KP.bel {SR : SRT} {t : List Int} {wid : Int} {w wr : World} {bk bs m : Nat} {D : List Nd} {A : List (Int × List It)} (h : KP SR t wid w bk bs m D A wr) : Below w.heap.size w wr := by
  obtain ⟨_, _, _, h⟩ := h; exact h
theorem KP.next {SR : SRT} {t : List Int} {wid : Int} {w wr w2 : World} {bk bs m' : Nat} {D' : List Nd} {A' : List (Int × List It)} {own' : Ghost} (ha : ∀ k, k < w.heap.size → own' k = .arg) (hb : Below w.heap.size w wr) (h : KN SR w.heap.size bk bs t wid m' D' A' wr own' w2) : KP SR t wid w bk bs m' D' A' w2 := by
  obtain ⟨own2, g, s, f⟩ := h
  have hs := hb.size
  refine ⟨own2, g, fun k hk => ?_, f.os.trans hb.os, f.tape.trans hb.tape, f.output.trans hb.output, Nat.le_trans hs f.size, fun k hk => ?_⟩
  · rw [s k (by omega) (by rw [ha k hk]; simp)]; exact ha k hk
  · rw [f.block k (by omega) (by rw [ha k hk]; simp) (by rw [ha k hk]; simp [notA])]; exact hb.block k hk
theorem KP.step {SR : SRT} {t : List Int} {wid : Int} {w wr w2 : World} {bk bs m : Nat} {D : List Nd} {A : List (Int × List It)} (R : PR SR) (h : KP SR t wid w bk bs m D A wr) (hb : Below wr.heap.size wr w2) : KP SR t wid w bk bs m D A w2 := by
  obtain ⟨own', g, a, b⟩ := h
  exact ⟨own', g.below R hb, a, bnext b hb⟩
theorem sr_pa : PA SR := ⟨sr_pr, sr_pl, sr_ps, sr_pd, sr_pj2⟩
end Go.Proofs.Ytpglbakcjihohab

/-! A round: every node is stored and sends all to the node above, the root first. -/
namespace Go.Proofs.Ytpglbakcjihohab
open Go.RowKit
set_option maxRecDepth 100000

theorem KN.trans {SR : SRT} {B0 bk bs : Nat} {t : List Int} {wid : Int} {m : Nat} {D : List Nd} {A : List (Int × List It)} {w w1 w2 : World} {own own1 : Ghost} (hs : Same w own own1) (hf : Fr own notA w w1) (h : KN SR B0 bk bs t wid m D A w1 own1 w2) : KN SR B0 bk bs t wid m D A w own w2 := by
  obtain ⟨own2, g, s, f⟩ := h
  exact ⟨own2, g, hs.trans hf.size s, hf.trans hs f⟩
/-- What a run's own cells tell. -/
theorem KX.cells {SR : SRT} {B0 bk bs : Nat} {t : List Int} {wid : Int} {m : Nat} {D : List Nd} {A : List (Int × List It)} {w : World} {own : Ghost} (h : KX SR B0 bk bs t wid m D A w own) : ∃ (tp : Option Addr) (tc : Nat), w.cell? ⟨bk, 0, none⟩ = some (.pointer (some ⟨bs, 0, none⟩)) ∧ w.cell? ⟨bk, 1, none⟩ = some (.slice tp t.length tc) ∧ w.cell? ⟨bk, 2, none⟩ = some (.int .i64 wid) ∧ RowsAt clInt w tp t ∧ (∀ b off, tp = some ⟨b, off, none⟩ → own b = .wd 0) ∧ own bk = .gm ∧ bk < w.heap.size := by
  obtain ⟨vt, vs, vl, C, PK, g⟩ := h
  obtain ⟨tp, tn, tc⟩ := vt
  have htr : t.length = tn ∧ RowsAt clInt w tp t := Own.sl (s := ⟨tp, tn, tc⟩) g.tr
  refine ⟨tp, tc, by rw [cell_of_row _ _ _ _ _ _ g.run]; rfl, by rw [cell_of_row _ _ _ _ _ _ g.run, htr.1]; rfl, by rw [cell_of_row _ _ _ _ _ _ g.run]; rfl, htr.2, fun b off e => g.tt b (by rw [e]; rfl), g.gm, lt_of_blk g.run⟩
theorem KX.tree {SR : SRT} {B0 bk bs : Nat} {t : List Int} {wid : Int} {m : Nat} {D : List Nd} {A : List (Int × List It)} {w : World} {own : Ghost} (h : KX SR B0 bk bs t wid m D A w own) : Tree t := by obtain ⟨vt, vs, vl, C, PK, g⟩ := h; exact g.T
theorem KX.inv {SR : SRT} {B0 bk bs : Nat} {t : List Int} {wid : Int} {m : Nat} {D : List Nd} {A : List (Int × List It)} {w : World} {own : Ghost} (h : KX SR B0 bk bs t wid m D A w own) : Inv t D A := by obtain ⟨vt, vs, vl, C, PK, g⟩ := h; exact g.inv
theorem KX.st {SR : SRT} {B0 bk bs : Nat} {t : List Int} {wid : Int} {m : Nat} {D : List Nd} {A : List (Int × List It)} {w : World} {own : Ghost} (h : KX SR B0 bk bs t wid m D A w own) : SR w own B0 bs t wid D := by obtain ⟨vt, vs, vl, C, PK, g⟩ := h; exact g.st
theorem KX.di {SR : SRT} {B0 bk bs : Nat} {t : List Int} {wid : Int} {m : Nat} {D : List Nd} {A : List (Int × List It)} {w : World} {own : Ghost} (h : KX SR B0 bk bs t wid m D A w own) : DI D m := by obtain ⟨vt, vs, vl, C, PK, g⟩ := h; exact g.di
theorem KX.b0 {SR : SRT} {B0 bk bs : Nat} {t : List Int} {wid : Int} {m : Nat} {D : List Nd} {A : List (Int × List It)} {w : World} {own : Ghost} (h : KX SR B0 bk bs t wid m D A w own) : B0 ≤ w.heap.size := by obtain ⟨vt, vs, vl, C, PK, g⟩ := h; exact g.b0
theorem KX.wd {SR : SRT} {B0 bk bs : Nat} {t : List Int} {wid : Int} {m : Nat} {D : List Nd} {A : List (Int × List It)} {w : World} {own : Ghost} (h : KX SR B0 bk bs t wid m D A w own) : 1 ≤ wid ∧ wid ≤ 1000 := by obtain ⟨vt, vs, vl, C, PK, g⟩ := h; exact ⟨g.wid0, g.wid1⟩
theorem KX.kev {SR : SRT} {B0 bk bs : Nat} {t : List Int} {wid : Int} {m : Nat} {D : List Nd} {A : List (Int × List It)} {w : World} {own : Ghost} (h : KX SR B0 bk bs t wid m D A w own) (hm : m ≤ 1000000000) : ∀ (k : Nat) (d : Nd), D[k]? = some d → EvOk d.kev ∧ d.kev.length ≤ 1000000000 := by
  obtain ⟨vt, vs, vl, C, PK, g⟩ := h
  exact fun k d hd => ⟨(g.nb k d hd).kev, by have := (g.di k d hd).2.1; omega⟩
end Go.Proofs.Ytpglbakcjihohab

/-! A script that is played; a run whose beginnings are pinned; numbers that are none of a range. -/
namespace Go.Proofs.Ytpglbakcjihohab
open Go.RowKit
set_option maxRecDepth 100000

theorem KN.join {SR : SRT} {B0 bk bs : Nat} {t : List Int} {wid : Int} {m : Nat} {D : List Nd} {A : List (Int × List It)} {w w1 w2 : World} {own own1 : Ghost} (hs : Same w own own1) (hf : Fr own notA w w1) (h : KN SR B0 bk bs t wid m D A w1 own1 w2) : KN SR B0 bk bs t wid m D A w own w2 := by
  obtain ⟨own2, g, s, f⟩ := h
  exact ⟨own2, g, hs.trans hf.size s, hf.trans hs f⟩
set_option maxHeartbeats 4000000 in
theorem kplays_any (SR : SRT) (P : PA SR) (w : World) (own : Ghost) (B0 bk bs : Nat) (t : List Int) (wid : Int) (m : Nat) (D : List Nd) (A : List (Int × List It)) (hx : KX SR B0 bk bs t wid m D A w own) (ps : Option Addr) (sn sc : Nat) (steps : List KSt) (hs : steps.length = sn) (hrs : RowsAt clKs w ps steps) (hsm : m + sn ≤ 90000000) (hok : ∀ x ∈ steps, x.Ok) (hps : 0 < sn → ∀ b off, ps = some ⟨b, off, none⟩ → own b = .arg) :
    Calls Try.prog 7 #[.pointer (some ⟨bk, 0, none⟩), .slice ps sn sc] w fun e w' => e = .returned (.bool true) ∧ ∃ D' A', KN SR B0 bk bs t wid (m + sn) D' A' w own w' := by
  have HP : Hid (PA SR) := P
  have H : Hid (RowsAt clKs w ps steps ∧ (∀ x ∈ steps, x.Ok) ∧ (0 < sn → ∀ b off, ps = some ⟨b, off, none⟩ → own b = .arg)) := ⟨hrs, hok, hps⟩
  have HX0 : Hid (KN SR B0 bk bs t wid (m + 0) D A w own w) := ⟨own, hx, Same.refl _ _, Fr.refl _ _ _⟩
  clear P hrs hok hps hx
  go_enter Try.func7, Try.ntmps7
  go_wp2
  go_loopw [5] (fun i wr => ∃ (k : Nat) (D : List Nd) (A : List (Int × List It)), k ≤ sn ∧ i = .int .i64 k ∧ KN SR B0 bk bs t wid (m + k) D A w own wr) (fun i _ => sn - (intOf i).toNat)
  case atStart => exact ⟨0, _, _, by omega, rfl, HX0.out⟩
  case round =>
    obtain ⟨k, D, A, hk, rfl, hkn⟩ := hrel
    have HKN : Hid (KN SR B0 bk bs t wid (m + k) D A w own wr) := hkn
    by_cases hlk : k < sn
    · obtain ⟨own', hx, hsm', hfr⟩ := hkn
      have HX : Hid (KX SR B0 bk bs t wid (m + k) D A wr own' ∧ Same w own own' ∧ Fr own notA w wr) := ⟨hx, hsm', hfr⟩
      obtain ⟨gp, op, rfl, hgp, hrg⟩ := H.out.1.pos k (by omega)
      obtain ⟨x, hx⟩ : ∃ x, steps[k]? = some x := ⟨_, List.getElem?_eq_getElem (by omega)⟩
      have hta := H.out.2.2 (by omega) gp op rfl
      have HRG : Hid (wr.rangeAt gp (op + k * 5) (clKs.cells x)) := fun j v hv => by
        have h1 := hrg k x hx j v hv
        exact cell_fr' hfr h1 (by rw [hta]; simp) (by rw [hta]; simp [notA])
      have HO : Hid x.Ok := H.out.2.1 x (List.mem_of_getElem? hx)
      clear hx hrg hta hsm' hfr
      go_wp2_with (first | (refine load_kst_mid rfl _ rfl _ _ rfl x (by exact HRG.out) ?_) | (go_at_call 15; refine (kstep_any SR HP.out wr own' B0 bk bs t wid (m + k) D A HX.out.1 (by omega) x.kind x.a x.b x.key x.v HO.out.kind HO.out.a HO.out.b HO.out.key HO.out.v0 HO.out.v1).mono ?_; rintro e w2 ⟨rfl, D', A', hn', _⟩; have HN : Hid (KN SR B0 bk bs t wid (m + (k + 1)) D' A' w own w2) := KN.join HX.out.2.1 HX.out.2.2 hn'; clear hn'))
      go_roundw
      case rel => exact ⟨k + 1, D', A', by omega, by go_num, HN.out⟩
      case measure => simp [intOf]; omega
    · obtain rfl : k = sn := by omega
      go_wp2
      go_ret
      exact ⟨rfl, D, A, HKN.out⟩
/-! ### A run whose beginnings are pinned -/
structure KO (SR : SRT) (t : List Int) (wid : Int) (w : World) (bk bs m : Nat) (D : List Nd) (A : List (Int × List It)) (wr : World) (own : Ghost) : Prop where
  x : KX SR w.heap.size bk bs t wid m D A wr own
  a : ∀ k, k < w.heap.size → own k = .arg
  b : Below w.heap.size w wr
theorem KO.next {SR : SRT} {t : List Int} {wid : Int} {w wr w2 : World} {bk bs m m' : Nat} {D D' : List Nd} {A A' : List (Int × List It)} {own : Ghost} (h : KO SR t wid w bk bs m D A wr own) (hn : KN SR w.heap.size bk bs t wid m' D' A' wr own w2) : ∃ own2, KO SR t wid w bk bs m' D' A' w2 own2 ∧ Same wr own own2 ∧ Fr own notA wr w2 := by
  obtain ⟨own2, g, s, f⟩ := hn
  have hs := h.b.size
  refine ⟨own2, ⟨g, fun k hk => ?_, ⟨f.os.trans h.b.os, f.tape.trans h.b.tape, f.output.trans h.b.output, Nat.le_trans hs f.size, fun k hk => ?_⟩⟩, s, f⟩
  · rw [s k (by omega) (by rw [h.a k hk]; simp)]; exact h.a k hk
  · rw [f.block k (by omega) (by rw [h.a k hk]; simp) (by rw [h.a k hk]; simp [notA])]; exact h.b.block k hk
/-- What was made since is pinned. -/
def argO (w : World) (own : Ghost) : Ghost := fun k => if k < w.heap.size then own k else .arg
theorem argO_same (w : World) (own : Ghost) : Same w own (argO w own) := fun _ hk _ => if_pos hk
theorem argO_new {w : World} {own : Ghost} {k : Nat} (h : w.heap.size ≤ k) : argO w own k = .arg := if_neg (by omega)
theorem argO_old {w : World} {own : Ghost} {k : Nat} (h : k < w.heap.size) : argO w own k = own k := if_pos h
theorem KO.pin {SR : SRT} (R : PR SR) {t : List Int} {wid : Int} {w wr w2 : World} {bk bs m : Nat} {D : List Nd} {A : List (Int × List It)} {own : Ghost} (h : KO SR t wid w bk bs m D A wr own) (hb : Below wr.heap.size wr w2) : KO SR t wid w bk bs m D A w2 (argO wr own) := by
  have hs := h.b.size
  exact ⟨h.x.chg R hb (fun j hj => argO_old hj), fun k hk => by rw [argO_old (by omega)]; exact h.a k hk, bnext h.b hb⟩
theorem LkAt.next {w w' : World} {own own' : Ghost} {t : List Int} {D : List Nd} {vi vm va : Sl} {S : List Sl} (h : LkAt w own t D vi vm va S) (s : Same w own own') (f : Fr own notA w w') : LkAt w' own' t D vi vm va S := h.chg f s (by simp [notA])
theorem LkAt.pin {w w' : World} {own : Ghost} {t : List Int} {D : List Nd} {vi vm va : Sl} {S : List Sl} (h : LkAt w own t D vi vm va S) (hb : Below w.heap.size w w') : LkAt w' (argO w own) t D vi vm va S := h.chg (F := fun _ => False) (Fr.of_below hb) (argO_same w own) (fun h => h)
/-- A pinned block stays. -/
def PinB (w : World) (own : Ghost) (k : Nat) (o : Obj) : Prop := w.heap[k]? = some o ∧ own k = .arg
theorem PinB.lt {w : World} {own : Ghost} {k : Nat} {o : Obj} (h : PinB w own k o) : k < w.heap.size := (List.getElem?_eq_some_iff.1 (by simpa using h.1)).1
theorem PinB.next {w w' : World} {own own' : Ghost} {k : Nat} {o : Obj} (h : PinB w own k o) (s : Same w own own') (f : Fr own notA w w') : PinB w' own' k o :=
  ⟨by rw [f.block k h.lt (by rw [h.2]; simp) (by rw [h.2]; simp [notA])]; exact h.1, by rw [s k h.lt (by rw [h.2]; simp)]; exact h.2⟩
theorem PinB.pin {w w' : World} {own : Ghost} {k : Nat} {o : Obj} (h : PinB w own k o) (hb : Below w.heap.size w w') : PinB w' (argO w own) k o := ⟨by rw [hb.block k h.lt]; exact h.1, by rw [argO_old h.lt]; exact h.2⟩
/-! ### Numbers outside -/
def outI (c n : Int) : Int := if 0 ≤ c ∧ c < n then n + c else c
theorem outI_out (c n : Int) (hn : 0 ≤ n) : outI c n < 0 ∨ n ≤ outI c n := by unfold outI; split <;> omega
theorem outI_fits {c n : Int} (hc : fitsI c) (hn : 0 ≤ n) (hn1 : n ≤ 1000000) : fitsI (outI c n) := by unfold fitsI at *; unfold outI; split <;> omega
set_option maxHeartbeats 1000000 in
theorem koutside_any (c n : Int) (w : World) (hc : fitsI c) (hn : 0 ≤ n) (hn1 : n ≤ 1000000) :
    Calls Try.prog 20 #[.int .i64 c, .int .i64 n] w fun e w' => e = .returned (.int .i64 (outI c n)) ∧ w' = w := by
  obtain ⟨r, hr⟩ : ∃ r, r = outI c n := ⟨_, rfl⟩
  rw [← hr]
  unfold outI at hr
  by_cases h0 : 0 ≤ c
  · by_cases h1 : c < n
    · have e1 : IntKind.i64.wrap (n + c) = r := by rw [hr, if_pos ⟨h0, h1⟩]; exact IntWalk.i64_in _ ⟨by omega, by omega⟩
      clear hr
      go_enter Try.func20, Try.ntmps20
      go_wp2
      go_ret
      exact ⟨rfl, rfl⟩
    · have HR : Hid (r = c) := by rw [hr]; exact if_neg (fun h => h1 h.2)
      clear hr
      go_enter Try.func20, Try.ntmps20
      go_wp2
      go_ret
      exact ⟨by rw [HR.out]; rfl, rfl⟩
  · have HR : Hid (r = c) := by rw [hr]; exact if_neg (fun h => h0 h.1)
    clear hr
    go_enter Try.func20, Try.ntmps20
    go_wp2
    go_ret
    exact ⟨by rw [HR.out]; rfl, rfl⟩
end Go.Proofs.Ytpglbakcjihohab

/-! To take what is newer is nothing to order and repetition; what a node has stored (no program is named here). -/
namespace Go.Proofs.Ytpglbakcjihohab
open Go.RowKit
set_option maxRecDepth 100000

/-! ### Sorted lists of the same items are the same -/
theorem srt_ext : ∀ (l1 l2 : List It), Srt l1 → Srt l2 → (∀ x, x ∈ l1 ↔ x ∈ l2) → l1 = l2
  | [], [], _, _, _ => rfl
  | [], b :: l2, _, _, h => by have := (h b).2 (by simp); simp at this
  | a :: l1, [], _, _, h => by have := (h a).1 (by simp); simp at this
  | a :: l1, b :: l2, h1, h2, h => by
    have p1 := List.pairwise_cons.1 h1
    have p2 := List.pairwise_cons.1 h2
    have e : a = b := by
      rcases List.mem_cons.1 ((h a).1 (by simp)) with e | e
      · exact e
      · rcases List.mem_cons.1 ((h b).2 (by simp)) with e' | e'
        · exact e'.symm
        · have a1 := ahd_iff.1 (p1.1 b e')
          have a2 := ahd_iff.1 (p2.1 a e)
          omega
    subst e
    refine congrArg _ (srt_ext l1 l2 p1.2 p2.2 fun x => ⟨fun hx => ?_, fun hx => ?_⟩)
    · rcases List.mem_cons.1 ((h x).1 (by simp [hx])) with e | e
      · subst e; have := ahd_iff.1 (p1.1 x hx); omega
      · exact e
    · rcases List.mem_cons.1 ((h x).2 (by simp [hx])) with e | e
      · subst e; have := ahd_iff.1 (p2.1 x hx); omega
      · exact e
/-! ### The newest of each leaf and window -/
def rnk (x : It) : Int := 2 * x.ver + (if x.fin = true then 1 else 0)
theorem nwr_rnk {x y : It} : nwr x y = true ↔ rnk y < rnk x := by
  unfold nwr rnk
  cases x.fin <;> cases y.fin <;> simp <;> omega
def Key (x y : It) : Prop := x.leaf = y.leaf ∧ x.win = y.win
theorem mem_jin_iff (y x : It) : ∀ (l : List It), Srt l → (x ∈ jin y l ↔ (x ∈ l ∧ ¬ (Key x y ∧ rnk x < rnk y)) ∨ (x = y ∧ ∀ z ∈ l, Key z y → rnk z < rnk y))
  | [], _ => by simp [jin]
  | z :: l, h => by
    have p := List.pairwise_cons.1 h
    unfold jin
    by_cases h1 : ahd y z = true
    · rw [if_pos h1]
      have h1' := ahd_iff.1 h1
      have far : ∀ u ∈ z :: l, ¬ Key u y := fun u hu ⟨k1, k2⟩ => by
        rcases List.mem_cons.1 hu with rfl | hu
        · omega
        · have := ahd_iff.1 (p.1 u hu); omega
      constructor
      · intro hx
        rcases List.mem_cons.1 hx with rfl | hx
        · exact .inr ⟨rfl, fun u hu k => absurd k (far u hu)⟩
        · exact .inl ⟨hx, fun k => far x hx k.1⟩
      · rintro (⟨hx, _⟩ | ⟨rfl, _⟩)
        · exact List.mem_cons_of_mem _ hx
        · simp
    · rw [if_neg h1]
      by_cases h2 : z.leaf = y.leaf ∧ z.win = y.win
      · rw [if_pos h2]
        have far : ∀ u ∈ l, ¬ Key u y := fun u hu ⟨k1, k2⟩ => by have := ahd_iff.1 (p.1 u hu); omega
        by_cases h3 : nwr y z = true
        · rw [if_pos h3]
          have h3' := nwr_rnk.1 h3
          constructor
          · intro hx
            rcases List.mem_cons.1 hx with rfl | hx
            · refine .inr ⟨rfl, fun u hu k => ?_⟩
              rcases List.mem_cons.1 hu with rfl | hu
              · exact h3'
              · exact absurd k (far u hu)
            · exact .inl ⟨List.mem_cons_of_mem _ hx, fun k => far x hx k.1⟩
          · rintro (⟨hx, hn⟩ | ⟨rfl, _⟩)
            · rcases List.mem_cons.1 hx with rfl | hx
              · exact absurd ⟨h2, h3'⟩ hn
              · exact List.mem_cons_of_mem _ hx
            · simp
        · rw [if_neg h3]
          have h3' : ¬ rnk z < rnk y := fun e => h3 (nwr_rnk.2 e)
          constructor
          · intro hx
            rcases List.mem_cons.1 hx with rfl | hx
            · exact .inl ⟨by simp, fun k => h3' k.2⟩
            · exact .inl ⟨List.mem_cons_of_mem _ hx, fun k => far x hx k.1⟩
          · rintro (⟨hx, hn⟩ | ⟨rfl, hn⟩)
            · exact hx
            · exact absurd (hn z (by simp) h2) h3'
      · rw [if_neg h2]
        have ih := mem_jin_iff y x l p.2
        constructor
        · intro hx
          rcases List.mem_cons.1 hx with rfl | hx
          · exact .inl ⟨by simp, fun k => h2 k.1⟩
          · rcases ih.1 hx with ⟨a, b⟩ | ⟨a, b⟩
            · exact .inl ⟨List.mem_cons_of_mem _ a, b⟩
            · refine .inr ⟨a, fun u hu k => ?_⟩
              rcases List.mem_cons.1 hu with rfl | hu
              · exact absurd k h2
              · exact b u hu k
        · rintro (⟨hx, hn⟩ | ⟨rfl, hn⟩)
          · rcases List.mem_cons.1 hx with rfl | hx
            · simp
            · exact List.mem_cons_of_mem _ (ih.2 (.inl ⟨hx, hn⟩))
          · exact List.mem_cons_of_mem _ (ih.2 (.inr ⟨rfl, fun u hu k => hn u (List.mem_cons_of_mem _ hu) k⟩))
/-- Two items of one version, both Final or both not, are the same. -/
def Con (S : It → Prop) : Prop := ∀ x y, S x → S y → Key x y → rnk x = rnk y → x = y
structure Tops (S : It → Prop) (l : List It) : Prop where
  srt : Srt l
  mem : ∀ x, x ∈ l ↔ (S x ∧ ∀ y, S y → Key y x → rnk y ≤ rnk x)
  cov : ∀ s, S s → ∃ z ∈ l, Key z s ∧ rnk s ≤ rnk z
theorem Tops.jin {S : It → Prop} {l : List It} (h : Tops S l) (y : It) (hc : Con fun x => S x ∨ x = y) : Tops (fun x => S x ∨ x = y) (jin y l) := by
  have cy : ∃ z ∈ Go.Proofs.Ytpglbakcjihohab.jin y l, Key z y ∧ rnk y ≤ rnk z := by
    by_cases hall : ∀ z ∈ l, Key z y → rnk z < rnk y
    · exact ⟨y, (mem_jin_iff y y l h.srt).2 (.inr ⟨rfl, hall⟩), ⟨rfl, rfl⟩, Int.le_refl _⟩
    · simp only [Classical.not_forall] at hall
      obtain ⟨z, hz, hk, hr⟩ := hall
      exact ⟨z, (mem_jin_iff y z l h.srt).2 (.inl ⟨hz, fun k => hr k.2⟩), hk, by omega⟩
  refine ⟨srt_jin y l h.srt, fun x => ?_, fun s hs => ?_⟩
  · rw [mem_jin_iff y x l h.srt]
    constructor
    · rintro (⟨hx, hn⟩ | ⟨rfl, hn⟩)
      · obtain ⟨a, b⟩ := (h.mem x).1 hx
        refine ⟨.inl a, fun u hu k => ?_⟩
        rcases hu with hu | rfl
        · exact b u hu k
        · exact Classical.byContradiction fun e => hn ⟨⟨k.1.symm, k.2.symm⟩, by omega⟩
      · refine ⟨.inr rfl, fun u hu k => ?_⟩
        rcases hu with hu | rfl
        · obtain ⟨z, hz, kz, rz⟩ := h.cov u hu
          have := hn z hz ⟨kz.1.trans k.1, kz.2.trans k.2⟩
          omega
        · exact Int.le_refl _
    · rintro ⟨hx, hall⟩
      rcases hx with hx | rfl
      · exact .inl ⟨(h.mem x).2 ⟨hx, fun u hu k => hall u (.inl hu) k⟩, fun k => by have := hall y (.inr rfl) ⟨k.1.1.symm, k.1.2.symm⟩; omega⟩
      · by_cases hh : ∀ z ∈ l, Key z x → rnk z < rnk x
        · exact .inr ⟨rfl, hh⟩
        · simp only [Classical.not_forall] at hh
          obtain ⟨z, hz, hk, hr⟩ := hh
          have hzS := ((h.mem z).1 hz).1
          have hle := hall z (.inl hzS) hk
          have e : z = x := hc z x (.inl hzS) (.inr rfl) hk (by omega)
          rw [e] at hz
          exact .inl ⟨hz, fun k => by omega⟩
  · rcases hs with hs | rfl
    · obtain ⟨z, hz, kz, rz⟩ := h.cov s hs
      by_cases hk : Key z y ∧ rnk z < rnk y
      · obtain ⟨u, hu, ku, ru⟩ := cy
        exact ⟨u, hu, ⟨ku.1.trans (hk.1.1.symm.trans kz.1), ku.2.trans (hk.1.2.symm.trans kz.2)⟩, by have := hk.2; omega⟩
      · exact ⟨z, (mem_jin_iff y z l h.srt).2 (.inl ⟨hz, hk⟩), kz, rz⟩
    · exact cy
theorem tops_fold : ∀ (F : List It) (S : It → Prop) (l : List It), Tops S l → (Con fun x => S x ∨ x ∈ F) → Tops (fun x => S x ∨ x ∈ F) (F.foldl jnd l)
  | [], S, l, h, _ => ⟨h.srt, fun x => by simpa using h.mem x, fun s hs => h.cov s (by simpa using hs)⟩
  | y :: F, S, l, h, hc => by
    simp only [List.foldl_cons]
    rw [jnd_jin y l h.srt]
    have h1 := h.jin y fun a b ha hb => hc a b (by rcases ha with ha | rfl <;> simp [*]) (by rcases hb with hb | rfl <;> simp [*])
    have h2 := tops_fold F _ _ h1 fun a b ha hb => hc a b (by rcases ha with (ha | rfl) | ha <;> simp [*]) (by rcases hb with (hb | rfl) | hb <;> simp [*])
    exact ⟨h2.srt, fun x => by rw [h2.mem x]; simp only [List.mem_cons, or_assoc], fun s hs => h2.cov s (by simpa only [List.mem_cons, or_assoc] using hs)⟩
theorem tops_nil (F : List It) (hc : Con fun x => x ∈ F) : Tops (fun x => x ∈ F) (F.foldl jnd []) := by
  have h := tops_fold F (fun _ => False) [] ⟨List.Pairwise.nil, fun x => by simp, fun s hs => hs.elim⟩ (by simpa using hc)
  simpa using h
theorem fold_ext {F G : List It} (hc : Con fun x => x ∈ F) (h : ∀ x, x ∈ F ↔ x ∈ G) : F.foldl jnd [] = G.foldl jnd [] := by
  have t1 := tops_nil F hc
  have t2 := tops_nil G fun x y hx hy => hc x y ((h x).2 hx) ((h y).2 hy)
  refine srt_ext _ _ t1.srt t2.srt fun x => ?_
  rw [t1.mem, t2.mem]
  simp only [h]
theorem Xct.con {t : List Int} {D : List Nd} {x y : It} (hx : Xct t D x) (hy : Xct t D y) (k : Key x y) (r : rnk x = rnk y) : x = y := by
  obtain ⟨d, h1, _, h3, _⟩ := hx.of
  obtain ⟨d', g1, _, g3, _⟩ := hy.of
  obtain ⟨l, n, v, f, s⟩ := x
  obtain ⟨l', n', v', f', s'⟩ := y
  obtain ⟨rfl, rfl⟩ : l = l' ∧ n = n' := k
  simp only at h1 h3 g1 g3
  rw [h1] at g1
  cases g1
  unfold rnk at r
  simp only at r
  have hv : v = v' ∧ f = f' := by
    cases f <;> cases f' <;> simp at r ⊢ <;> omega
  obtain ⟨rfl, rfl⟩ := hv
  rw [h3, g3]
/-! ### A root to which packets come -/
def rtD (t : List Int) (F : List It) : List Nd := (List.replicate t.length Nd.zero).set 0 { Nd.zero with items := F.foldl jnd [] }
theorem rtD_nil (t : List Int) : rtD t [] = List.replicate t.length Nd.zero := by
  unfold rtD
  apply List.ext_getElem?
  intro j
  rw [List.getElem?_set]
  split
  · rename_i e
    subst e
    split
    · rename_i h
      rw [List.getElem?_replicate, if_pos (by simpa using h)]
      rfl
    · rename_i h
      rw [List.getElem?_eq_none (by omega)]
  · rfl
theorem rtD_zero {t : List Int} (h : 0 < t.length) (F : List It) : (rtD t F)[0]? = some { Nd.zero with items := F.foldl jnd [] } := by
  unfold rtD; exact List.getElem?_set_self (by simpa using h)
theorem rtD_del {t : List Int} (h : 0 < t.length) (F : List It) {fr : Int} {l : List It} (he : delE t 0 fr l = 0) : delD t (rtD t F) 0 fr l = rtD t (F ++ l) := by
  unfold delD
  rw [if_pos he]
  simp only [Int.toNat_zero, rtD_zero h]
  unfold rtD
  rw [List.set_set, List.foldl_append]
theorem rtD_di {t : List Int} {F : List It} (hF : AllIn F) (m : Nat) : DI (rtD t F) m := fun k d hk => by
  unfold rtD at hk
  rcases set_some hk with ⟨_, rfl⟩ | ⟨_, hk⟩
  · exact ⟨by simp [Nd.zero], by simp [Nd.zero], Good.nil.dlv hF, Good.nil⟩
  · obtain ⟨hi, e⟩ := List.getElem?_eq_some_iff.1 hk
    rw [← e]
    simp only [List.getElem_replicate]
    exact ⟨by simp [Nd.zero], by simp [Nd.zero], Good.nil, Good.nil⟩
theorem rtD_lv {t : List Int} (h : 0 < t.length) {F G : List It} (hc : Con fun x => x ∈ F) (he : ∀ x, x ∈ F ↔ x ∈ G) : lvAt t (rtD t F) 0 = lvAt t (rtD t G) 0 := by
  have e := fold_ext hc he
  unfold rtD
  rw [e]
theorem rtD_good {t : List Int} {F : List It} (hF : AllIn F) (h : 0 < t.length) : AllOkI (lvAt t (rtD t F) 0) ∧ (lvAt t (rtD t F) 0).length ≤ 160 := by
  have e : lvAt t (rtD t F) 0 = lvg t { Nd.zero with items := F.foldl jnd [] } 0 := by
    unfold lvAt
    rw [if_pos (by simp [isNd]; omega)]
    simp only [Int.toNat_zero, rtD_zero h, Option.map_some, Option.getD_some]
  rw [e]
  have g : Good (lvg t { Nd.zero with items := F.foldl jnd [] } 0) := by
    unfold lvg
    split
    · exact known_good 0 [] _ (by omega) (by omega) (fun i e he => by simp at he) (by simp)
    · exact Good.nil.dlv hF
  exact ⟨g.ok, g.len⟩
/-! ### What a node has stored -/
theorem std_kst {t : List Int} {d d' : Nd} {n : Nat} (h1 : d'.kev = d.kev) (h2 : d'.kcl = d.kcl) (h4 : d'.saved = d.saved) : std t d' n = std t d n := by unfold std; rw [h1, h2, h4]
theorem std_syn {t : List Int} {D : List Nd} {n : Nat} {d : Nd} (hn : n < t.length) (hd : D[n]? = some d) : ∃ d', (synD t D n)[n]? = some d' ∧ std t d' n = lvAt t D n ∧ d'.kmk = d.lmk := by
  refine ⟨{ d with kev := d.lev, kcl := d.lcl, kmk := d.lmk, saved := d.items }, ?_, ?_, rfl⟩
  · unfold synD
    rw [if_pos (by simp [isNd]; omega)]
    simp only [Int.toNat_natCast, hd]
    exact List.getElem?_set_self (List.getElem?_eq_some_iff.1 hd).1
  · rw [lvAt_eq hn hd]; rfl
theorem inRg_all {l : List It} (h : Good l) : l.filter (inRg 0 19) = l := by
  apply List.filter_eq_self.2
  intro x hx
  have := h.inb x hx
  simp only [inRg, decide_eq_true_eq]
  omega
theorem cra_self {t : List Int} {D : List Nd} {n : Nat} {d : Nd} (hn : n < t.length) (hd : D[n]? = some d) : lvAt t (craD t D n) n = std t d n ∧ wmAt t (craD t D n) n = if wrg t n = 0 then d.kmk else -1 := by
  have e : (craD t D n)[n]? = some { d with lev := d.kev, lcl := d.kcl, lmk := d.kmk, items := d.saved } := by
    unfold craD
    rw [if_pos (by simp [isNd]; omega)]
    simp only [Int.toNat_natCast, hd]
    exact List.getElem?_set_self (List.getElem?_eq_some_iff.1 hd).1
  refine ⟨by rw [lvAt_eq hn e]; rfl, ?_⟩
  unfold wmAt
  simp only [Int.toNat_natCast, e, Option.map_some, Option.getD_some]
theorem cra_other {t : List Int} {D : List Nd} {n k : Nat} (h : k ≠ n) : lvAt t (craD t D n) k = lvAt t D k ∧ wmAt t (craD t D n) k = wmAt t D k := by
  have e : (craD t D n)[k]? = D[k]? := by
    unfold craD
    split
    · split
      · exact List.getElem?_set_ne (by rw [Int.toNat_natCast]; omega)
      · rfl
    · rfl
  unfold lvAt wmAt
  simp only [Int.toNat_natCast, e, and_self]
theorem wm_syn (t : List Int) (D : List Nd) (n k : Nat) : wmAt t (synD t D n) k = wmAt t D k := by
  unfold synD
  split
  · split
    · rename_i d hd
      rw [Int.toNat_natCast] at hd ⊢
      unfold wmAt
      split
      · rw [Int.toNat_natCast, List.getElem?_set]
        split
        · rename_i e
          subst e
          rw [hd, if_pos (List.getElem?_eq_some_iff.1 hd).1]
          rfl
        · rfl
      · rfl
    · rfl
  · rfl
end Go.Proofs.Ytpglbakcjihohab

/-! Two stores beside one another: what one does is nothing to the other. -/
namespace Go.Proofs.Ytpglbakcjihohab
open Go.RowKit
set_option maxRecDepth 100000

structure TwoS (SR : SRT) (t : List Int) (wid : Int) (w0 : World) (b1 b2 : Nat) (F1 F2 : List It) (wr : World) (o1 o2 : Ghost) : Prop where
  s1 : SR wr o1 w0.heap.size b1 t wid (rtD t F1)
  s2 : SR wr o2 w0.heap.size b2 t wid (rtD t F2)
  n1 : ∀ k, k < wr.heap.size → o1 k ≠ .free
  n2 : ∀ k, k < wr.heap.size → o2 k ≠ .free
  d : ∀ k, k < wr.heap.size → isSt (o1 k) → isSt (o2 k) → False
  old : ∀ k, k < w0.heap.size → o1 k = .arg ∧ o2 k = .arg
  bel : Below w0.heap.size w0 wr
section
variable {SR : SRT} {t : List Int} {wid : Int} {w0 wr wr' : World} {b1 b2 : Nat} {F1 F2 F' : List It} {o1 o2 : Ghost}
theorem TwoS.swap (h : TwoS SR t wid w0 b1 b2 F1 F2 wr o1 o2) : TwoS SR t wid w0 b2 b1 F2 F1 wr o2 o1 := ⟨h.s2, h.s1, h.n2, h.n1, fun k hk a b => h.d k hk b a, fun k hk => ⟨(h.old k hk).2, (h.old k hk).1⟩, h.bel⟩
/-- What is not free stays as it was; the rest is pinned. -/
def pinO (o : Ghost) : Ghost := fun k => if (o k).kind = 0 ∧ (o k).num = 0 then .arg else o k
theorem tag_free {x : Tag} : (x.kind = 0 ∧ x.num = 0) ↔ x = .free := by
  obtain ⟨a, b⟩ := x
  simp
theorem pinO_at {o : Ghost} {k : Nat} (h : o k ≠ .free) : pinO o k = o k := if_neg fun e => h (tag_free.1 e)
theorem pinO_same (w : World) (o : Ghost) : Same w o (pinO o) := fun _ _ hf => pinO_at hf
theorem pinO_ne (o : Ghost) (k : Nat) : pinO o k ≠ .free := by
  unfold pinO
  split
  · simp
  · rename_i h; exact fun e => h (tag_free.2 e)
theorem TwoS.below (R : PR SR) (h : TwoS SR t wid w0 b1 b2 F1 F2 wr o1 o2) (hb : Below wr.heap.size wr wr') : TwoS SR t wid w0 b1 b2 F1 F2 wr' (argO wr o1) (argO wr o2) := by
  have hs := hb.size
  have hz := h.bel.size
  refine ⟨R.chg h.s1 (Fr.of_below (S := fun _ => False) hb) (argO_same _ _) (fun _ h => h), R.chg h.s2 (Fr.of_below (S := fun _ => False) hb) (argO_same _ _) (fun _ h => h), fun k hk => ?_, fun k hk => ?_, fun k hk a b => ?_, fun k hk => ?_, bnext h.bel hb⟩
  · rcases Nat.lt_or_ge k wr.heap.size with e | e
    · rw [argO_old e]; exact h.n1 k e
    · rw [argO_new e]; simp
  · rcases Nat.lt_or_ge k wr.heap.size with e | e
    · rw [argO_old e]; exact h.n2 k e
    · rw [argO_new e]; simp
  · rcases Nat.lt_or_ge k wr.heap.size with e | e
    · rw [argO_old e] at a b; exact h.d k e a b
    · rw [argO_new e] at a; obtain ⟨i, e⟩ := a; simp at e
  · rw [argO_old (by omega), argO_old (by omega)]; exact h.old k hk
theorem TwoS.step (R : PR SR) (h : TwoS SR t wid w0 b1 b2 F1 F2 wr o1 o2) (hc : Chg SR wr o1 w0.heap.size b1 t wid (rtD t F') wr') : ∃ o1' o2', TwoS SR t wid w0 b1 b2 F' F2 wr' o1' o2' ∧ ∀ k, k < wr.heap.size → o1 k = .arg → o2 k = .arg → o1' k = .arg ∧ o2' k = .arg ∧ wr'.heap[k]? = wr.heap[k]? := by
  obtain ⟨oa, hs1, sm, fr⟩ := hc
  have hz := h.bel.size
  have e1 : ∀ k, k < wr.heap.size → pinO oa k = o1 k := fun k hk => by
    have hf := h.n1 k hk
    rw [pinO_same wr' oa k (Nat.lt_of_lt_of_le hk fr.size) (by rw [sm k hk hf]; exact hf), sm k hk hf]
  have blk : ∀ k, k < wr.heap.size → ¬ isSt (o1 k) → wr'.heap[k]? = wr.heap[k]? := fun k hk hn => fr.block k hk (h.n1 k hk) hn
  refine ⟨pinO oa, argO wr o2, ⟨R.chg hs1 (Fr.refl _ (fun _ => False) _) (pinO_same _ _) (fun _ h => h), ?_, fun k _ => pinO_ne oa k, fun k hk => ?_, fun k hk a b => ?_, fun k hk => ?_, ?_⟩, fun k hk ha hb => ⟨?_, ?_, ?_⟩⟩
  · have f2 : Fr o2 (fun t => ¬ isSt t) wr wr' := ⟨fr.os, fr.tape, fr.output, fr.size, fun k hk hf hn => blk k hk fun a => h.d k hk a (Classical.not_not.1 hn)⟩
    exact R.chg h.s2 f2 (argO_same _ _) (fun i hn => hn ⟨i, rfl⟩)
  · rcases Nat.lt_or_ge k wr.heap.size with e | e
    · rw [argO_old e]; exact h.n2 k e
    · rw [argO_new e]; simp
  · rcases Nat.lt_or_ge k wr.heap.size with e | e
    · rw [argO_old e] at b
      rw [e1 k e] at a
      exact h.d k e a b
    · rw [argO_new e] at b; obtain ⟨i, e⟩ := b; simp at e
  · rw [e1 k (by omega), argO_old (by omega)]; exact h.old k hk
  · exact ⟨fr.os.trans h.bel.os, fr.tape.trans h.bel.tape, fr.output.trans h.bel.output, Nat.le_trans hz fr.size, fun k hk => (blk k (by omega) (by rw [(h.old k hk).1]; rintro ⟨i, e⟩; simp at e)).trans (h.bel.block k hk)⟩
  · rw [e1 k hk]; exact ha
  · rw [argO_old hk]; exact hb
  · exact blk k hk (by rw [ha]; rintro ⟨i, e⟩; simp at e)
theorem TwoS.start (R : PR SR) {w1 w2 : World} (hb1 : Below w0.heap.size w0 w1) (hb2 : Below w1.heap.size w1 w2)
    (h1 : ∀ (own : Ghost) (B0 : Nat), B0 ≤ w0.heap.size → ∃ own', SR w1 own' B0 b1 t wid (List.replicate t.length Nd.zero) ∧ Same w0 own own') (h2 : ∀ (own : Ghost) (B0 : Nat), B0 ≤ w1.heap.size → ∃ own', SR w2 own' B0 b2 t wid (List.replicate t.length Nd.zero) ∧ Same w1 own own') : ∃ o1 o2, TwoS SR t wid w0 b1 b2 [] [] w2 o1 o2 := by
  have hs1 := hb1.size
  have hs2 := hb2.size
  obtain ⟨oa, ha, sa⟩ := h1 (fun _ => .arg) w0.heap.size (Nat.le_refl _)
  obtain ⟨ob, hbb, sb⟩ := h2 (fun _ => .arg) w0.heap.size hs1
  have ea : ∀ k, k < w0.heap.size → oa k = .arg := fun k hk => sa k hk (by simp)
  have eb : ∀ k, k < w1.heap.size → ob k = .arg := fun k hk => sb k hk (by simp)
  have sa' : Same w1 oa (argO w1 (pinO oa)) := fun k hk hf => by rw [argO_old hk]; exact pinO_at hf
  refine ⟨argO w1 (pinO oa), pinO ob, by rw [rtD_nil]; exact R.chg ha (Fr.of_below (S := fun _ => False) hb2) sa' (fun _ h => h), by rw [rtD_nil]; exact R.chg hbb (Fr.refl _ (fun _ => False) _) (pinO_same _ _) (fun _ h => h), fun k hk => ?_, fun k _ => pinO_ne ob k, fun k hk a b => ?_, fun k hk => ?_, bnext hb1 hb2⟩
  · rcases Nat.lt_or_ge k w1.heap.size with e | e
    · rw [argO_old e]; exact pinO_ne oa k
    · rw [argO_new e]; simp
  · rcases Nat.lt_or_ge k w1.heap.size with e | e
    · have : pinO ob k = .arg := by rw [pinO_at (by rw [eb k e]; simp)]; exact eb k e
      rw [this] at b; obtain ⟨i, e⟩ := b; simp at e
    · rw [argO_new e] at a; obtain ⟨i, e⟩ := a; simp at e
  · have p1 : pinO oa k = .arg := by rw [pinO_at (by rw [ea k hk]; simp)]; exact ea k hk
    have p2 : pinO ob k = .arg := by rw [pinO_at (by rw [eb k (by omega)]; simp)]; exact eb k (by omega)
    rw [argO_old (by omega)]
    exact ⟨p1, p2⟩
end
/-! ### Packets for the root -/
/-- A packet of the list, and what it holds. -/
structure PkG (w : World) (t : List Int) (A : List (Int × List It)) (x : Pk) (p : Int × List It) : Prop where
  fr : x.fr = p.1
  n : p.2.length = x.s.n
  r : RowsAt clIt w x.s.p p.2
  lt : ∀ b off, x.s.p = some ⟨b, off, none⟩ → b < w.heap.size
  m : p ∈ A
  up : t.getD p.1.toNat 0 = 0
theorem PkG.below {w w' : World} {t : List Int} {A : List (Int × List It)} {x : Pk} {p : Int × List It} (h : PkG w t A x p) (hb : Below w.heap.size w w') : PkG w' t A x p :=
  ⟨h.fr, h.n, h.r.below hb, fun b off e => Nat.lt_of_lt_of_le (h.lt b off e) hb.size, h.m, h.up⟩
def fl (l : List (Int × List It)) : List It := l.flatMap (·.2)
theorem mem_fl {l : List (Int × List It)} {x : It} : x ∈ fl l ↔ ∃ p ∈ l, x ∈ p.2 := by simp [fl]
theorem fl_take {l : List (Int × List It)} {i : Nat} {p : Int × List It} (h : l[i]? = some p) : fl (l.take (i + 1)) = fl (l.take i) ++ p.2 := by
  obtain ⟨hi, e⟩ := List.getElem?_eq_some_iff.1 h
  rw [List.take_succ_eq_append_getElem hi, e]
  simp [fl]
theorem pk_ok {t : List Int} (hT : Tree t) {D : List Nd} {A : List (Int × List It)} (h : Inv t D A) {p : Int × List It} (hp : p ∈ A) (hu : t.getD p.1.toNat 0 = 0) : delE t 0 p.1 p.2 = 0 ∧ Good p.2 ∧ fitsI p.1 := by
  have hf := fair_pk h hp
  rw [hu] at hf
  obtain ⟨p1, p2, pg, _⟩ := h.pk p hp
  have h8 := hT.le
  have hp0 := hT.pos
  exact ⟨by unfold delE; rw [if_pos (by simp [isNd]; omega), if_pos hf], pg, ⟨by omega, by omega⟩⟩
theorem fl_con {t : List Int} {D : List Nd} {A B : List (Int × List It)} (h : Inv t D A) (hB : ∀ p ∈ B, p ∈ A) : Con fun x => x ∈ fl B := fun x y hx hy k r => by
  obtain ⟨p, hp, hx⟩ := mem_fl.1 hx
  obtain ⟨q, hq, hy⟩ := mem_fl.1 hy
  exact Xct.con ((h.pk p (hB p hp)).2.2.2 x hx).1 ((h.pk q (hB q hq)).2.2.2 y hy).1 k r
theorem allIn_of {t : List Int} {D : List Nd} {A : List (Int × List It)} (h : Inv t D A) {F : List It} (hF : ∀ x ∈ F, ∃ p ∈ A, x ∈ p.2) : AllIn F := fun x hx => by
  obtain ⟨p, hp, hxp⟩ := hF x hx
  have pg := (h.pk p hp).2.2.1
  exact ⟨pg.ok.mem hxp, pg.inb x hxp⟩
end Go.Proofs.Ytpglbakcjihohab
