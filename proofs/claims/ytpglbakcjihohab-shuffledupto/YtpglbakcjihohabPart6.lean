/-
  Own texts, laid together: A run's leaf goes on. A run's node is stored.
-/
import Derived.Test.YtpglbakcjihohabRows
import Derived.Test.YtpglbakcjihohabPart5
set_option linter.unusedSimpArgs false
set_option linter.unusedVariables false
set_option linter.deprecated false
/-! A run's leaf goes on. -/
namespace Go.Proofs.Ytpglbakcjihohab
open Go.RowKit
set_option maxRecDepth 100000

theorem cell_set_off {w : World} {b o o' : Nat} {v x : Value} (hne : o' ≠ o) (h : w.cell? ⟨b, o', none⟩ = some x) : (w.setCell ⟨b, o, none⟩ v).cell? ⟨b, o', none⟩ = some x := by
  rw [World.cell?_setCell_other w _ _ _ (by intro e; cases e; exact hne rfl)]; exact h
/-- The sources' block as it is written: what else there is stays. -/
structure KB (w wr : World) (own : Ghost) (B0 gs N cs : Nat) (C : List SrcC) : Prop where
  f : Fr own (fun t => t = .wd 1) w wr
  o : Own clSrc wr B0 87 (.slice (some ⟨gs, 0, none⟩) N cs) C
theorem KB.set {w wr : World} {own : Ghost} {B0 gs N cs : Nat} {C : List SrcC} (h : KB w wr own B0 gs N cs C) (tgs : own gs = .wd 1) (k : Nat) (c c' : SrcC) (hc : C[k]? = some c) (j : Nat) (hj : j < 82) (u : Value) (hu : c'.at j = u) (ho : ∀ i, i < 82 → i ≠ j → c'.at i = c.at i) : KB w (wr.setCell ⟨gs, k * 82 + j, none⟩ u) own B0 gs N cs (C.set k c') := by
  refine ⟨⟨h.f.os, h.f.tape, h.f.output, by have := h.f.size; simpa using this, fun i hi hf hn => ?_⟩, h.o.cell_set k c c' hc j u hj (SrcC.set c c' j u hj hu ho)⟩
  rw [heap_setCell_other _ _ _ _ (by show i ≠ gs; intro e; exact hn (by rw [e]; exact tgs))]
  exact h.f.block i hi hf hn
theorem KB.below {w wr w' : World} {own : Ghost} {B0 gs N cs : Nat} {C : List SrcC} (h : KB w wr own B0 gs N cs C) (hb : Below wr.heap.size wr w') : KB w w' own B0 gs N cs C :=
  ⟨h.f.trans (Same.refl _ _) (Fr.of_below hb), h.o.below hb⟩
theorem KD.fin {SR : SRT} {w wr w2 : World} {own own2 : Ghost} {B0 bk bs : Nat} {t : List Int} {wid : Int} {m : Nat} {D : List Nd} {vt vl : Sl} {gs cs : Nat} {C : List SrcC} {PK : List Pk} {A : List (Int × List It)} (g : KD SR w own B0 bk bs t wid m D vt ⟨some ⟨gs, 0, none⟩, t.length, cs⟩ vl C PK A)
    (k : Nat) (c c' : SrcC) (d d' : Nd) (hc : C[k]? = some c) (hd : D[k]? = some d) (kb : KB w wr own B0 gs t.length cs (C.set k c')) (hst : SR w2 own2 B0 bs t wid (D.set k d')) (sm : Same wr own own2) (fr : Fr own isSt wr w2)
    (hev : ∀ v : Nat, v < 20 → c'.ev v = c.ev v) (hlev : ∀ v : Nat, v < 20 → evK d'.lev v = evK d.lev v) (h1 : ∀ v : Nat, v < 20 → c'.kept v = ((evK d'.kev v).length : Int)) (h2 : ∀ v : Nat, v < 20 → c'.cl v = d'.lcl v) (h3 : ∀ v : Nat, v < 20 → c'.sh v = d'.kcl v) (h4 : c'.mark = d'.lmk) (h5 : c'.saved = d'.kmk)
    (hinv : Inv t (D.set k d') A) (hdi : d'.lev.length ≤ m ∧ d'.kev.length ≤ m ∧ Good d'.items ∧ Good d'.saved) (hnb : NdB wid d') : KN SR B0 bk bs t wid m (D.set k d') A w own w2 := by
  have tgs : own gs = .wd 1 := g.ts gs rfl
  have hgs : gs < w.heap.size := (g.so.lt gs rfl).2
  have sz := kb.f.size
  have sm1 : Same w own own2 := fun j hj hf => sm j (by omega) hf
  have f1 : Fr own isKs w w2 := (kb.f.mono (S' := isKs) fun _ e => by rw [e]; exact isKs_wd 1 (by decide)).trans (Same.refl _ _) (fr_st fr)
  have old : ∀ j, j < w.heap.size → ∀ i, own j = .wd i → i ≠ 1 → w2.heap[j]? = w.heap[j]? := fun j hj i e hi => by
    rw [fr.block j (by omega) (by rw [e]; simp) (by rw [e]; rintro ⟨i', e'⟩; simp at e'), kb.f.block j hj (by rw [e]; simp) (by rw [e]; simp; exact hi)]
  have ho : Own clSrc w2 B0 87 (.slice (some ⟨gs, 0, none⟩) t.length cs) (C.set k c') := kb.o.fr fr (t := .wd 1) (fun j hj => by obtain rfl : gs = j := Option.some.inj hj; exact tgs) (by simp) (by rintro ⟨i', e'⟩; simp at e')
  refine ⟨own2, ⟨_, _, _, _, _, g.re (m' := m) f1 sm1 hst ho (by simp) (fun j cj dj hcj hdj => ?_) hinv (fun j dj hj => ?_) (fun j dj hj => ?_) (Nat.le_refl _)⟩, sm1, f1.mono fun t ht => by rcases ht with ⟨i, rfl⟩ | ⟨i, rfl, _⟩ <;> simp [notA]⟩
  · by_cases ej : k = j
    · subst ej
      rw [List.getElem?_set_self (List.getElem?_eq_some_iff.1 hd).1] at hdj; cases hdj
      rw [List.getElem?_set_self (List.getElem?_eq_some_iff.1 hc).1] at hcj; cases hcj
      have rep := g.rep k c d hc hd
      refine ⟨fun v hv => ?_, fun v hv => ?_, h1, h2, h3, h4, h5⟩
      · rw [hev v hv, hlev v hv]
        exact (rep.ev v hv).chg fun i hi => old i ((rep.ev v hv).lt i hi).2 _ (rep.te v hv i hi) (by omega)
      · rw [hev v hv]; exact (rep.te v hv).own sm1 (rep.ev v hv) (by simp)
    · rw [List.getElem?_set_ne ej] at hdj hcj
      have rj := g.rep j cj dj hcj hdj
      exact ⟨fun v hv => (rj.ev v hv).chg fun i hi => old i ((rj.ev v hv).lt i hi).2 _ (rj.te v hv i hi) (by omega), fun v hv => (rj.te v hv).own sm1 (rj.ev v hv) (by simp), rj.kept, rj.cl, rj.sh, rj.mark, rj.saved⟩
  · rcases set_some hj with ⟨rfl, rfl⟩ | ⟨_, hj⟩
    · exact hdi
    · exact g.di j dj hj
  · rcases set_some hj with ⟨rfl, rfl⟩ | ⟨_, hj⟩
    · exact hnb
    · exact g.nb j dj hj
def cAdv (c : SrcC) (wid to' : Int) (j : Nat) : SrcC := { c with mark := to', cl := clTo c.cl wid to' j }
theorem cAdv_zero (c : SrcC) (wid to' : Int) : cAdv c wid to' 0 = { c with mark := to' } := by
  have : clTo c.cl wid to' 0 = c.cl := by funext i; simp [clTo]
  simp [cAdv, this]
theorem cAdv_at (c : SrcC) (wid to' : Int) (j : Nat) (hj : j < 20) : (cAdv c wid to' (j + 1)).at (40 + j) = .bool (c.cl j || decide (((j : Int) + 1) * wid ≤ to')) := by
  rw [SrcC.at_cl _ j hj]
  show Value.bool (clTo c.cl wid to' (j + 1) j) = _
  unfold clTo
  by_cases h : ((j : Int) + 1) * wid ≤ to'
  · rw [if_pos ⟨by omega, h⟩]; simp [h]
  · rw [if_neg (fun x => h x.2)]; simp [h]
theorem cAdv_oth (c : SrcC) (wid to' : Int) (j : Nat) (hj : j < 20) : ∀ i, i < 82 → i ≠ 40 + j → (cAdv c wid to' (j + 1)).at i = (cAdv c wid to' j).at i := fun i hi hne => by
  unfold SrcC.at cAdv
  simp only []
  split
  · rfl
  · split
    · rfl
    · split
      · congr 1
        show clTo c.cl wid to' (j + 1) (i - 40) = clTo c.cl wid to' j (i - 40)
        unfold clTo
        have : i - 40 ≠ j := by omega
        by_cases h : i - 40 < j ∧ (((i - 40 : Nat) : Int) + 1) * wid ≤ to'
        · rw [if_pos h, if_pos ⟨by omega, h.2⟩]
        · rw [if_neg h, if_neg (fun x => h ⟨by omega, x.2⟩)]
      · rfl
theorem cAdv_cl (c : SrcC) (wid to' : Int) (j : Nat) (hj : j < 20) : (cAdv c wid to' j).cl j = c.cl j := by
  show clTo c.cl wid to' j j = c.cl j
  unfold clTo
  rw [if_neg (fun x => by omega)]
set_option maxHeartbeats 8000000 in
theorem kadv_any (SR : SRT) (R : PR SR) (Q : PL SR) (w : World) (own : Ghost) (B0 bk bs : Nat) (t : List Int) (wid : Int) (m : Nat) (D : List Nd) (A : List (Int × List It)) (hx : KX SR B0 bk bs t wid m D A w own) (hm : m < 100000000) (k : Nat) (hk : k < t.length) (hlf : isLf t k = true) (by' : Int) (hby : fitsI by') :
    Calls Try.prog 36 #[.pointer (some ⟨bk, 0, none⟩), .int .i64 k, .int .i64 by'] w fun e w' => e = .returned (.bool true) ∧ ∃ tm, 0 ≤ tm ∧ tm ≤ 20 * wid ∧ (by' = 20 * wid → tm = 20 * wid) ∧ KN SR B0 bk bs t wid m (advD t wid D k tm) A w own w' := by
  obtain ⟨vt, vs, vl, C, PK, g⟩ := hx
  obtain ⟨gs, cs, rfl⟩ := g.src
  obtain ⟨c, d, hc, hd, rep, nb⟩ := g.at k hk
  have h8 := g.T.le
  have w0 := g.wid0
  have w1' := g.wid1
  have hso : Own clSrc w B0 87 (.slice (some ⟨gs, 0, none⟩) t.length cs) C := g.so
  have tgs : own gs = .wd 1 := g.ts gs rfl
  have hgsw : gs < w.heap.size := (hso.lt gs rfl).2
  obtain ⟨N, hN⟩ : ∃ N, t.length = N := ⟨_, rfl⟩
  have HN : Hid (t.length = N) := hN
  obtain ⟨en, hen⟩ : ∃ en, en = 20 * wid := ⟨_, rfl⟩
  have hen2 : en ≤ 20000 := by omega
  have e20 : IntKind.i64.wrap (20 * wid) = en := by rw [hen]; exact IntWalk.i64_in _ ⟨by omega, by omega⟩
  have e21 : IntKind.i64.wrap (en + 1) = en + 1 := IntWalk.i64_in _ ⟨by omega, by omega⟩
  have c0 : w.cell? ⟨bk, 0, none⟩ = some (.pointer (some ⟨bs, 0, none⟩)) := by rw [cell_of_row _ _ _ _ _ _ g.run]; rfl
  have c2 : w.cell? ⟨bk, 2, none⟩ = some (.int .i64 wid) := by rw [cell_of_row _ _ _ _ _ _ g.run]; rfl
  have c3 : w.cell? ⟨bk, 3, none⟩ = some (.slice (some ⟨gs, 0, none⟩) N cs) := by rw [cell_of_row _ _ _ _ _ _ g.run, ← hN]; rfl
  obtain ⟨lm, hlm⟩ : ∃ lm, d.lmk = lm := ⟨_, rfl⟩
  have cm : w.cell? ⟨gs, k * 82 + 80, none⟩ = some (.int .i64 lm) := by
    rw [← hlm, ← rep.mark]
    exact hso.cell_at k c hc 80 _ (by show c.cells[80]? = _; rw [c.get _ (by omega), c.at_mark])
  have HBK : Hid (∃ cur, w.heap[gs]? = some (.cells cur 87)) := hso.blk
  have fm : w.frozen? ⟨gs, k * 82 + 80, none⟩ = false := by obtain ⟨cur, hcur⟩ := HBK.out; exact frozen_of_row _ _ _ _ _ hcur
  have hl0 : 0 ≤ lm := by rw [← hlm]; exact nb.lm0
  have hl1 : lm ≤ en := by rw [← hlm, hen]; exact nb.lm1
  have hpk := pk_bd by' (en + 1) (by omega)
  obtain ⟨pb, hpb⟩ : ∃ pb, pk by' (en + 1) = pb := ⟨_, rfl⟩
  rw [hpb] at hpk
  have HPB : Hid (pk by' (en + 1) = pb) := hpb
  have epb : IntKind.i64.wrap (lm + pb) = lm + pb := IntWalk.i64_in _ ⟨by omega, by omega⟩
  obtain ⟨to', hto⟩ : ∃ to', to' = if en < lm + pb then en else lm + pb := ⟨_, rfl⟩
  have ht0 : lm ≤ to' ∧ to' ≤ en := by rw [hto]; split <;> omega
  have HBE : Hid (0 ≤ to' ∧ to' ≤ 20 * wid ∧ (by' = 20 * wid → to' = 20 * wid)) := ⟨by omega, by omega, fun e => by
    have e1 : pk by' (en + 1) = en := by
      unfold pk
      rw [if_neg (by omega), e, ← hen]
      exact Int.emod_eq_of_lt (by omega) (by omega)
    rw [hto, ← hen]
    split <;> omega⟩
  have hbg : bk ≠ gs := fun e => by have := g.gm; rw [e, tgs] at this; simp at this
  have HG : Hid (KD SR w own B0 bk bs t wid m D vt ⟨some ⟨gs, 0, none⟩, t.length, cs⟩ vl C PK A) := g
  have HR : Hid (PR SR) := R
  have HQ : Hid (PL SR) := Q
  have HCD : Hid (C[k]? = some c ∧ D[k]? = some d) := ⟨hc, hd⟩
  have hlv : wrg t k = 0 := by unfold wrg; rw [if_pos (by simp [isNd]; omega), if_pos hlf]
  have HE : Hid (advE t wid D k to' = 0) := by
    have e : ((D[((k : Int)).toNat]?).map fun d => d.lmk).getD 0 = lm := by simp [hd, hlm]
    unfold Hid advE; rw [if_pos hlv, if_neg (by rw [e]; omega)]
  have HD : Hid (advD t wid D k to' = D.set k { d with lmk := to', lcl := clTo d.lcl wid to' 20 }) := by unfold Hid advD; rw [if_pos HE.out]; simp [hd]
  have HI : Hid (Inv t (D.set k { d with lmk := to', lcl := clTo d.lcl wid to' 20 }) A) := by unfold Hid; rw [← HD.out]; exact inv_advance g.inv k to'
  have HRP : Hid (SrcRep w own B0 k c d ∧ NdB wid d) := ⟨rep, nb⟩
  have HK0 : Hid (KB w (w.setCell ⟨gs, k * 82 + 80, none⟩ (.int .i64 to')) own B0 gs N cs (C.set k (cAdv c wid to' 0))) := by
    have kb0 : KB w w own B0 gs N cs C := ⟨Fr.refl _ _ _, by rw [← hN]; exact hso⟩
    unfold Hid
    rw [cAdv_zero]
    exact kb0.set tgs k c { c with mark := to' } hc 80 (by omega) _ (by rw [SrcC.at_mark]) (fun i hi hne => by unfold SrcC.at; simp only []; repeat' split; all_goals first | rfl | omega)
  have k0 : (0 : Int) ≤ (k : Int) := by omega
  have k1 : (k : Int) < (N : Int) := by omega
  have HTO : Hid (to' = if en < lm + pb then en else lm + pb) := hto
  have HEN : Hid (en = 20 * wid) := hen
  clear g R Q rep nb hd hc hso hN hen hlm hto hpb
  go_enter Try.func36, Try.ntmps36
  go_upto_region 2 with fail
  have hT0 : (fun w' : World => w'.cell? ⟨bk, 3, none⟩ = some (.slice (some ⟨gs, 0, none⟩) N cs) ∧ w'.cell? ⟨gs, k * 82 + 80, none⟩ = some (.int .i64 lm)) w.drew := ⟨c3, cm⟩
  refine wp_region_held (S := fun w' : World => w'.cell? ⟨bk, 3, none⟩ = some (.slice (some ⟨gs, 0, none⟩) N cs) ∧ w'.cell? ⟨gs, k * 82 + 80, none⟩ = some (.int .i64 lm)) mixed ?_
  refine wpAnyH_take (i := 0) (v := (.pointer (some ⟨bk, 0, none⟩))) rfl (by kernel_rfl) (by kernel_rfl) (by kernel_rfl) (fun _ _ _ h => h) (Or.inl ⟨by rfl, fun wx hx => by go_simp⟩) hT0 ?_
  try dsimp only
  try simp only [Act.put, List.getElem_toArray, List.getElem_cons_succ, List.getElem_cons_zero, List.setIfInBounds_toArray, List.set_cons_zero, List.set_cons_succ]
  refine wpAnyH_take (i := 1) (v := (.pointer (some ⟨bk, 0, none⟩))) rfl (by kernel_rfl) (by kernel_rfl) (by kernel_rfl) (fun _ _ _ h => h) (Or.inl ⟨by rfl, fun wx hx => by go_simp⟩) hT0 ?_
  try dsimp only
  try simp only [Act.put, List.getElem_toArray, List.getElem_cons_succ, List.getElem_cons_zero, List.setIfInBounds_toArray, List.set_cons_zero, List.set_cons_succ]
  refine wpAnyH_take (i := 2) (v := (.pointer (some ⟨bk, 3, none⟩))) rfl (by kernel_rfl) (by kernel_rfl) (by kernel_rfl) (fun _ _ _ h => h) (Or.inl ⟨by rfl, fun wx hx => by go_simp⟩) hT0 ?_
  try dsimp only
  try simp only [Act.put, List.getElem_toArray, List.getElem_cons_succ, List.getElem_cons_zero, List.setIfInBounds_toArray, List.set_cons_zero, List.set_cons_succ]
  refine wpAnyH_take (i := 3) (v := (.slice (some ⟨gs, 0, none⟩) N cs)) rfl (by kernel_rfl) (by kernel_rfl) (by kernel_rfl) (fun _ _ _ h => h) (Or.inl ⟨by rfl, fun wx hx => by have hx1 := hx.1; go_simp⟩) hT0 ?_
  try dsimp only
  try simp only [Act.put, List.getElem_toArray, List.getElem_cons_succ, List.getElem_cons_zero, List.setIfInBounds_toArray, List.set_cons_zero, List.set_cons_succ]
  refine wpAnyH_take (i := 4) (v := (.int .i64 k)) rfl (by kernel_rfl) (by kernel_rfl) (by kernel_rfl) (fun _ _ _ h => h) (Or.inl ⟨by rfl, fun wx hx => by go_simp⟩) hT0 ?_
  try dsimp only
  try simp only [Act.put, List.getElem_toArray, List.getElem_cons_succ, List.getElem_cons_zero, List.setIfInBounds_toArray, List.set_cons_zero, List.set_cons_succ]
  refine wpAnyH_take (i := 5) (v := (.pointer (some ⟨gs, k * 82, none⟩))) rfl (by kernel_rfl) (by kernel_rfl) (by kernel_rfl) (fun _ _ _ h => h) (Or.inl ⟨by rfl, fun wx hx => by go_simp⟩) hT0 ?_
  try dsimp only
  try simp only [Act.put, List.getElem_toArray, List.getElem_cons_succ, List.getElem_cons_zero, List.setIfInBounds_toArray, List.set_cons_zero, List.set_cons_succ]
  refine wpAnyH_take (i := 6) (v := (.pointer (some ⟨gs, k * 82 + 80, none⟩))) rfl (by kernel_rfl) (by kernel_rfl) (by kernel_rfl) (fun _ _ _ h => h) (Or.inl ⟨by rfl, fun wx hx => by go_simp⟩) hT0 ?_
  try dsimp only
  try simp only [Act.put, List.getElem_toArray, List.getElem_cons_succ, List.getElem_cons_zero, List.setIfInBounds_toArray, List.set_cons_zero, List.set_cons_succ]
  refine wpAnyH_take (i := 7) (v := (.int .i64 lm)) rfl (by kernel_rfl) (by kernel_rfl) (by kernel_rfl) (fun _ _ _ h => h) (Or.inl ⟨by rfl, fun wx hx => by have hx1 := hx.2; go_simp⟩) hT0 ?_
  try dsimp only
  try simp only [Act.put, List.getElem_toArray, List.getElem_cons_succ, List.getElem_cons_zero, List.setIfInBounds_toArray, List.set_cons_zero, List.set_cons_succ]
  refine wpAnyH_take (i := 8) (v := (.int .i64 by')) rfl (by kernel_rfl) (by kernel_rfl) (by kernel_rfl) (fun _ _ _ h => h) (Or.inl ⟨by rfl, fun wx hx => by go_simp⟩) hT0 ?_
  try dsimp only
  try simp only [Act.put, List.getElem_toArray, List.getElem_cons_succ, List.getElem_cons_zero, List.setIfInBounds_toArray, List.set_cons_zero, List.set_cons_succ]
  refine wpAnyH_take (i := 9) (v := (.int .i64 en)) rfl (by kernel_rfl) (by kernel_rfl) (by kernel_rfl) (fun _ _ _ h => h) (Or.inl ⟨by rfl, fun wx hx => by go_simp⟩) hT0 ?_
  try dsimp only
  try simp only [Act.put, List.getElem_toArray, List.getElem_cons_succ, List.getElem_cons_zero, List.setIfInBounds_toArray, List.set_cons_zero, List.set_cons_succ]
  refine wpAnyH_take (i := 10) (v := (.int .i64 (en + 1))) rfl (by kernel_rfl) (by kernel_rfl) (by kernel_rfl) (fun _ _ _ h => h) (Or.inl ⟨by rfl, fun wx hx => by go_simp⟩) hT0 ?_
  try dsimp only
  try simp only [Act.put, List.getElem_toArray, List.getElem_cons_succ, List.getElem_cons_zero, List.setIfInBounds_toArray, List.set_cons_zero, List.set_cons_succ]
  refine wpAnyH_all (rs := [11]) (by kernel_rfl) (by simp) ?_
  intro jj hjj
  simp only [List.mem_cons, List.not_mem_nil, or_false] at hjj
  subst hjj
  refine wpOp_of_wp rfl rfl ?_
  go_simp
  refine (pick_any by' (en + 1) w.drew hby.1 hby.2 (by omega) (by omega)).mono ?_
  rintro e w2 ⟨rfl, hw2⟩
  subst hw2
  rw [HPB.out]
  refine ⟨hT0, ?_⟩
  try dsimp only
  try simp only [Act.put, List.getElem_toArray, List.getElem_cons_succ, List.getElem_cons_zero, List.setIfInBounds_toArray, List.set_cons_zero, List.set_cons_succ]
  refine wpAnyH_take (i := 12) (v := (.int .i64 (lm + pb))) rfl (by kernel_rfl) (by kernel_rfl) (by kernel_rfl) (fun _ _ _ h => h) (Or.inl ⟨by rfl, fun wx hx => by go_simp⟩) hT0 ?_
  try dsimp only
  try simp only [Act.put, List.getElem_toArray, List.getElem_cons_succ, List.getElem_cons_zero, List.setIfInBounds_toArray, List.set_cons_zero, List.set_cons_succ]
  refine wpAnyH_take (i := 13) (v := (.int .i64 (lm + pb))) rfl (by kernel_rfl) (by kernel_rfl) (by kernel_rfl) (fun _ _ _ h => h) (Or.inl ⟨by rfl, fun wx hx => by go_simp⟩) hT0 ?_
  try dsimp only
  try simp only [Act.put, List.getElem_toArray, List.getElem_cons_succ, List.getElem_cons_zero, List.setIfInBounds_toArray, List.set_cons_zero, List.set_cons_succ]
  refine wpAnyH_done (by kernel_rfl) ?_ _
  clear hT0
  obtain ⟨w2, hw2⟩ : ∃ w2, w2 = w.drew := ⟨_, rfl⟩
  have HB2 : Hid (Below w.heap.size w w2) := by unfold Hid; rw [hw2]; exact below_drew
  have HK0' : Hid (KB w (w2.setCell ⟨gs, k * 82 + 80, none⟩ (.int .i64 to')) own B0 gs N cs (C.set k (cAdv c wid to' 0))) := by
    unfold Hid; rw [hw2]
    exact HK0.out.below (w' := (w.drew).setCell ⟨gs, k * 82 + 80, none⟩ (.int .i64 to')) ⟨rfl, rfl, rfl, Nat.le_refl _, fun _ _ => rfl⟩
  rw [← hw2]
  clear hw2 HK0
  replace c0 := cell_keep HB2.out c0
  replace c2 := cell_keep HB2.out c2
  replace c3 := cell_keep HB2.out c3
  replace cm := cell_keep HB2.out cm
  have fm2 : w2.frozen? ⟨gs, k * 82 + 80, none⟩ = false := by obtain ⟨cur, hcur⟩ := HBK.out; exact frozen_of_row _ _ _ _ _ (keep HB2.out hcur)
  clear fm
  have hlt : ∀ b, (decide (en < lm + pb) = b) → True := fun _ _ => trivial
  clear hlt
  by_cases hbig : en < lm + pb
  · have het : to' = en := by rw [HTO.out, if_pos hbig]
    clear HTO
    subst het
    go_wp2
    go_loopw [9] (fun i wr => ∃ j : Nat, j ≤ 20 ∧ i = .int .i64 j ∧ KB w wr own B0 gs N cs (C.set k (cAdv c wid (to') j))) (fun i _ => 20 - (intOf i).toNat)
    case atStart => exact ⟨0, by omega, rfl, HK0'.out⟩
    case round =>
      clear HK0' fm2
      obtain ⟨j, hj, rfl, kb⟩ := hrel
      have HKB : Hid (KB w wr own B0 gs N cs (C.set k (cAdv c wid (to') j))) := kb
      have d3 : wr.cell? ⟨bk, 3, none⟩ = some (.slice (some ⟨gs, 0, none⟩) N cs) := cell_fr' kb.f (by rw [cell_of_row _ _ _ _ _ _ HG.out.run, ← HN.out]; rfl) (by rw [HG.out.gm]; simp) (by rw [HG.out.gm]; simp)
      have d2 : wr.cell? ⟨bk, 2, none⟩ = some (.int .i64 wid) := cell_fr' kb.f (by rw [cell_of_row _ _ _ _ _ _ HG.out.run]; rfl) (by rw [HG.out.gm]; simp) (by rw [HG.out.gm]; simp)
      have d0 : wr.cell? ⟨bk, 0, none⟩ = some (.pointer (some ⟨bs, 0, none⟩)) := cell_fr' kb.f (by rw [cell_of_row _ _ _ _ _ _ HG.out.run]; rfl) (by rw [HG.out.gm]; simp) (by rw [HG.out.gm]; simp)
      have hkC : (C.set k (cAdv c wid (to') j))[k]? = some (cAdv c wid (to') j) := List.getElem?_set_self (List.getElem?_eq_some_iff.1 HCD.out.1).1
      clear kb
      by_cases hlj : j < 20
      · have cb : wr.cell? ⟨gs, k * 82 + 40 + j, none⟩ = some (.bool (c.cl j)) := by
          rw [Nat.add_assoc, ← cAdv_cl c wid (to') j hlj]
          exact HKB.out.o.cell_at k _ hkC (40 + j) _ (by show (cAdv c wid (to') j).cells[40 + j]? = _; rw [SrcC.get _ _ (by omega), SrcC.at_cl _ j hlj])
        have fb : wr.frozen? ⟨gs, k * 82 + 40 + j, none⟩ = false := by obtain ⟨cur, hcur⟩ := HKB.out.o.blk; exact frozen_of_row _ _ _ _ _ hcur
        have HNX : Hid (KB w (wr.setCell ⟨gs, k * 82 + 40 + j, none⟩ (.bool (c.cl j || decide (((j : Int) + 1) * wid ≤ to')))) own B0 gs N cs (C.set k (cAdv c wid (to') (j + 1)))) := by
          have z := HKB.out.set tgs k _ (cAdv c wid (to') (j + 1)) hkC (40 + j) (by omega) _ (cAdv_at c wid (to') j hlj) (cAdv_oth c wid (to') j hlj)
          rw [List.set_set] at z
          unfold Hid; rw [Nat.add_assoc]; exact z
        obtain ⟨b, hb⟩ : ∃ b, c.cl j = b := ⟨_, rfl⟩
        rw [hb] at cb HNX
        obtain ⟨ej, hej⟩ : ∃ ej, ej = ((j : Int) + 1) * wid := ⟨_, rfl⟩
        have hjb : ((j : Int) + 1) * wid ≤ 20 * 1000 := Int.mul_le_mul (by omega) (by omega) (by omega) (by omega)
        have hj0 : 0 ≤ ((j : Int) + 1) * wid := Int.mul_nonneg (by omega) (by omega)
        rw [← hej] at HNX hjb hj0
        have e1 : IntKind.i64.wrap ((j : Int) + 1) = (j : Int) + 1 := IntWalk.i64_in _ ⟨by omega, by omega⟩
        have e2 : IntKind.i64.wrap (((j : Int) + 1) * wid) = ej := by rw [← hej]; exact IntWalk.i64_in _ ⟨by omega, by omega⟩
        have j0 : (0 : Int) ≤ (j : Int) := by omega
        have j1 : (j : Int) < 20 := by omega
        clear hb hej hkC d0
        go_upto_region 9 with fail
        have hT0 : (fun w' : World => w'.cell? ⟨bk, 3, none⟩ = some (.slice (some ⟨gs, 0, none⟩) N cs) ∧ w'.cell? ⟨bk, 2, none⟩ = some (.int .i64 wid)) wr.drew := ⟨d3, d2⟩
        refine wp_region_held (S := fun w' : World => w'.cell? ⟨bk, 3, none⟩ = some (.slice (some ⟨gs, 0, none⟩) N cs) ∧ w'.cell? ⟨bk, 2, none⟩ = some (.int .i64 wid)) mixed ?_
        refine wpAnyH_take (i := 0) (v := (.pointer (some ⟨bk, 0, none⟩))) rfl (by kernel_rfl) (by kernel_rfl) (by kernel_rfl) (fun _ _ _ h => h) (Or.inl ⟨by rfl, fun wx hx => by go_simp⟩) hT0 ?_
        try dsimp only
        try simp only [Act.put, List.getElem_toArray, List.getElem_cons_succ, List.getElem_cons_zero, List.setIfInBounds_toArray, List.set_cons_zero, List.set_cons_succ]
        refine wpAnyH_take (i := 1) (v := (.pointer (some ⟨bk, 0, none⟩))) rfl (by kernel_rfl) (by kernel_rfl) (by kernel_rfl) (fun _ _ _ h => h) (Or.inl ⟨by rfl, fun wx hx => by go_simp⟩) hT0 ?_
        try dsimp only
        try simp only [Act.put, List.getElem_toArray, List.getElem_cons_succ, List.getElem_cons_zero, List.setIfInBounds_toArray, List.set_cons_zero, List.set_cons_succ]
        refine wpAnyH_take (i := 2) (v := (.pointer (some ⟨bk, 3, none⟩))) rfl (by kernel_rfl) (by kernel_rfl) (by kernel_rfl) (fun _ _ _ h => h) (Or.inl ⟨by rfl, fun wx hx => by go_simp⟩) hT0 ?_
        try dsimp only
        try simp only [Act.put, List.getElem_toArray, List.getElem_cons_succ, List.getElem_cons_zero, List.setIfInBounds_toArray, List.set_cons_zero, List.set_cons_succ]
        refine wpAnyH_take (i := 3) (v := (.slice (some ⟨gs, 0, none⟩) N cs)) rfl (by kernel_rfl) (by kernel_rfl) (by kernel_rfl) (fun _ _ _ h => h) (Or.inl ⟨by rfl, fun wx hx => by have hx1 := hx.1; go_simp⟩) hT0 ?_
        try dsimp only
        try simp only [Act.put, List.getElem_toArray, List.getElem_cons_succ, List.getElem_cons_zero, List.setIfInBounds_toArray, List.set_cons_zero, List.set_cons_succ]
        refine wpAnyH_take (i := 4) (v := (.int .i64 k)) rfl (by kernel_rfl) (by kernel_rfl) (by kernel_rfl) (fun _ _ _ h => h) (Or.inl ⟨by rfl, fun wx hx => by go_simp⟩) hT0 ?_
        try dsimp only
        try simp only [Act.put, List.getElem_toArray, List.getElem_cons_succ, List.getElem_cons_zero, List.setIfInBounds_toArray, List.set_cons_zero, List.set_cons_succ]
        refine wpAnyH_take (i := 5) (v := (.int .i64 j)) rfl (by kernel_rfl) (by kernel_rfl) (by kernel_rfl) (fun _ _ _ h => h) (Or.inl ⟨by rfl, fun wx hx => by go_simp⟩) hT0 ?_
        try dsimp only
        try simp only [Act.put, List.getElem_toArray, List.getElem_cons_succ, List.getElem_cons_zero, List.setIfInBounds_toArray, List.set_cons_zero, List.set_cons_succ]
        refine wpAnyH_take (i := 6) (v := (.pointer (some ⟨bk, 0, none⟩))) rfl (by kernel_rfl) (by kernel_rfl) (by kernel_rfl) (fun _ _ _ h => h) (Or.inl ⟨by rfl, fun wx hx => by go_simp⟩) hT0 ?_
        try dsimp only
        try simp only [Act.put, List.getElem_toArray, List.getElem_cons_succ, List.getElem_cons_zero, List.setIfInBounds_toArray, List.set_cons_zero, List.set_cons_succ]
        refine wpAnyH_take (i := 7) (v := (.pointer (some ⟨bk, 0, none⟩))) rfl (by kernel_rfl) (by kernel_rfl) (by kernel_rfl) (fun _ _ _ h => h) (Or.inl ⟨by rfl, fun wx hx => by go_simp⟩) hT0 ?_
        try dsimp only
        try simp only [Act.put, List.getElem_toArray, List.getElem_cons_succ, List.getElem_cons_zero, List.setIfInBounds_toArray, List.set_cons_zero, List.set_cons_succ]
        refine wpAnyH_take (i := 8) (v := (.pointer (some ⟨bk, 3, none⟩))) rfl (by kernel_rfl) (by kernel_rfl) (by kernel_rfl) (fun _ _ _ h => h) (Or.inl ⟨by rfl, fun wx hx => by go_simp⟩) hT0 ?_
        try dsimp only
        try simp only [Act.put, List.getElem_toArray, List.getElem_cons_succ, List.getElem_cons_zero, List.setIfInBounds_toArray, List.set_cons_zero, List.set_cons_succ]
        refine wpAnyH_take (i := 9) (v := (.slice (some ⟨gs, 0, none⟩) N cs)) rfl (by kernel_rfl) (by kernel_rfl) (by kernel_rfl) (fun _ _ _ h => h) (Or.inl ⟨by rfl, fun wx hx => by have hx1 := hx.1; go_simp⟩) hT0 ?_
        try dsimp only
        try simp only [Act.put, List.getElem_toArray, List.getElem_cons_succ, List.getElem_cons_zero, List.setIfInBounds_toArray, List.set_cons_zero, List.set_cons_succ]
        refine wpAnyH_take (i := 10) (v := (.int .i64 k)) rfl (by kernel_rfl) (by kernel_rfl) (by kernel_rfl) (fun _ _ _ h => h) (Or.inl ⟨by rfl, fun wx hx => by go_simp⟩) hT0 ?_
        try dsimp only
        try simp only [Act.put, List.getElem_toArray, List.getElem_cons_succ, List.getElem_cons_zero, List.setIfInBounds_toArray, List.set_cons_zero, List.set_cons_succ]
        refine wpAnyH_take (i := 11) (v := (.int .i64 j)) rfl (by kernel_rfl) (by kernel_rfl) (by kernel_rfl) (fun _ _ _ h => h) (Or.inl ⟨by rfl, fun wx hx => by go_simp⟩) hT0 ?_
        try dsimp only
        try simp only [Act.put, List.getElem_toArray, List.getElem_cons_succ, List.getElem_cons_zero, List.setIfInBounds_toArray, List.set_cons_zero, List.set_cons_succ]
        refine wpAnyH_take (i := 12) (v := (.pointer (some ⟨gs, k * 82, none⟩))) rfl (by kernel_rfl) (by kernel_rfl) (by kernel_rfl) (fun _ _ _ h => h) (Or.inl ⟨by rfl, fun wx hx => by go_simp⟩) hT0 ?_
        try dsimp only
        try simp only [Act.put, List.getElem_toArray, List.getElem_cons_succ, List.getElem_cons_zero, List.setIfInBounds_toArray, List.set_cons_zero, List.set_cons_succ]
        refine wpAnyH_take (i := 13) (v := (.pointer (some ⟨gs, k * 82 + 40, none⟩))) rfl (by kernel_rfl) (by kernel_rfl) (by kernel_rfl) (fun _ _ _ h => h) (Or.inl ⟨by rfl, fun wx hx => by go_simp⟩) hT0 ?_
        try dsimp only
        try simp only [Act.put, List.getElem_toArray, List.getElem_cons_succ, List.getElem_cons_zero, List.setIfInBounds_toArray, List.set_cons_zero, List.set_cons_succ]
        refine wpAnyH_take (i := 14) (v := (.pointer (some ⟨gs, k * 82 + 40 + j, none⟩))) rfl (by kernel_rfl) (by kernel_rfl) (by kernel_rfl) (fun _ _ _ h => h) (Or.inl ⟨by rfl, fun wx hx => by go_simp⟩) hT0 ?_
        try dsimp only
        try simp only [Act.put, List.getElem_toArray, List.getElem_cons_succ, List.getElem_cons_zero, List.setIfInBounds_toArray, List.set_cons_zero, List.set_cons_succ]
        refine wpAnyH_take (i := 27) (v := (.pointer (some ⟨gs, k * 82, none⟩))) rfl (by kernel_rfl) (by kernel_rfl) (by kernel_rfl) (fun _ _ _ h => h) (Or.inl ⟨by rfl, fun wx hx => by go_simp⟩) hT0 ?_
        try dsimp only
        try simp only [Act.put, List.getElem_toArray, List.getElem_cons_succ, List.getElem_cons_zero, List.setIfInBounds_toArray, List.set_cons_zero, List.set_cons_succ]
        refine wpAnyH_take (i := 28) (v := (.pointer (some ⟨gs, k * 82 + 40, none⟩))) rfl (by kernel_rfl) (by kernel_rfl) (by kernel_rfl) (fun _ _ _ h => h) (Or.inl ⟨by rfl, fun wx hx => by go_simp⟩) hT0 ?_
        try dsimp only
        try simp only [Act.put, List.getElem_toArray, List.getElem_cons_succ, List.getElem_cons_zero, List.setIfInBounds_toArray, List.set_cons_zero, List.set_cons_succ]
        refine wpAnyH_all (rs := [15]) (by kernel_rfl) (by simp) ?_
        intro jj hjj
        simp only [List.mem_cons, List.not_mem_nil, or_false] at hjj
        subst hjj
        refine wpOp_of_wp rfl rfl (hideK ?_)
        intro K' hK'
        go_simp
        rw [hK'.out]
        refine ⟨hT0, ?_⟩
        try dsimp only
        try simp only [Act.put, List.getElem_toArray, List.getElem_cons_succ, List.getElem_cons_zero, List.setIfInBounds_toArray, List.set_cons_zero, List.set_cons_succ]
        cases b with
        | true =>
          rw [Bool.true_or] at HNX
          refine wpAnyH_take (i := 16) (v := (.bool true)) rfl (by kernel_rfl) (by kernel_rfl) (by kernel_rfl) (fun _ _ _ h => h) (Or.inl ⟨by rfl, fun wx hx => by go_simp⟩) hT0 ?_
          try dsimp only
          try simp only [Act.put, List.getElem_toArray, List.getElem_cons_succ, List.getElem_cons_zero, List.setIfInBounds_toArray, List.set_cons_zero, List.set_cons_succ]
          refine wpAnyH_take (i := 17) (v := undef) rfl (by kernel_rfl) (by kernel_rfl) (by kernel_rfl) (fun _ _ _ h => h) (Or.inr ⟨by rfl, rfl⟩) hT0 ?_
          try dsimp only
          try simp only [Act.put, List.getElem_toArray, List.getElem_cons_succ, List.getElem_cons_zero, List.setIfInBounds_toArray, List.set_cons_zero, List.set_cons_succ]
          refine wpAnyH_take (i := 18) (v := undef) rfl (by kernel_rfl) (by kernel_rfl) (by kernel_rfl) (fun _ _ _ h => h) (Or.inr ⟨by rfl, rfl⟩) hT0 ?_
          try dsimp only
          try simp only [Act.put, List.getElem_toArray, List.getElem_cons_succ, List.getElem_cons_zero, List.setIfInBounds_toArray, List.set_cons_zero, List.set_cons_succ]
          refine wpAnyH_take (i := 19) (v := undef) rfl (by kernel_rfl) (by kernel_rfl) (by kernel_rfl) (fun _ _ _ h => h) (Or.inr ⟨by rfl, rfl⟩) hT0 ?_
          try dsimp only
          try simp only [Act.put, List.getElem_toArray, List.getElem_cons_succ, List.getElem_cons_zero, List.setIfInBounds_toArray, List.set_cons_zero, List.set_cons_succ]
          refine wpAnyH_take (i := 20) (v := undef) rfl (by kernel_rfl) (by kernel_rfl) (by kernel_rfl) (fun _ _ _ h => h) (Or.inr ⟨by rfl, rfl⟩) hT0 ?_
          try dsimp only
          try simp only [Act.put, List.getElem_toArray, List.getElem_cons_succ, List.getElem_cons_zero, List.setIfInBounds_toArray, List.set_cons_zero, List.set_cons_succ]
          refine wpAnyH_take (i := 21) (v := undef) rfl (by kernel_rfl) (by kernel_rfl) (by kernel_rfl) (fun _ _ _ h => h) (Or.inr ⟨by rfl, rfl⟩) hT0 ?_
          try dsimp only
          try simp only [Act.put, List.getElem_toArray, List.getElem_cons_succ, List.getElem_cons_zero, List.setIfInBounds_toArray, List.set_cons_zero, List.set_cons_succ]
          refine wpAnyH_take (i := 22) (v := undef) rfl (by kernel_rfl) (by kernel_rfl) (by kernel_rfl) (fun _ _ _ h => h) (Or.inr ⟨by rfl, rfl⟩) hT0 ?_
          try dsimp only
          try simp only [Act.put, List.getElem_toArray, List.getElem_cons_succ, List.getElem_cons_zero, List.setIfInBounds_toArray, List.set_cons_zero, List.set_cons_succ]
          refine wpAnyH_take (i := 23) (v := undef) rfl (by kernel_rfl) (by kernel_rfl) (by kernel_rfl) (fun _ _ _ h => h) (Or.inr ⟨by rfl, rfl⟩) hT0 ?_
          try dsimp only
          try simp only [Act.put, List.getElem_toArray, List.getElem_cons_succ, List.getElem_cons_zero, List.setIfInBounds_toArray, List.set_cons_zero, List.set_cons_succ]
          refine wpAnyH_take (i := 24) (v := undef) rfl (by kernel_rfl) (by kernel_rfl) (by kernel_rfl) (fun _ _ _ h => h) (Or.inr ⟨by rfl, rfl⟩) hT0 ?_
          try dsimp only
          try simp only [Act.put, List.getElem_toArray, List.getElem_cons_succ, List.getElem_cons_zero, List.setIfInBounds_toArray, List.set_cons_zero, List.set_cons_succ]
          refine wpAnyH_take (i := 25) (v := undef) rfl (by kernel_rfl) (by kernel_rfl) (by kernel_rfl) (fun _ _ _ h => h) (Or.inr ⟨by rfl, rfl⟩) hT0 ?_
          try dsimp only
          try simp only [Act.put, List.getElem_toArray, List.getElem_cons_succ, List.getElem_cons_zero, List.setIfInBounds_toArray, List.set_cons_zero, List.set_cons_succ]
          refine wpAnyH_take (i := 26) (v := (.bool true)) rfl (by kernel_rfl) (by kernel_rfl) (by kernel_rfl) (fun _ _ _ h => h) (Or.inl ⟨by rfl, fun wx hx => by go_simp⟩) hT0 ?_
          try dsimp only
          try simp only [Act.put, List.getElem_toArray, List.getElem_cons_succ, List.getElem_cons_zero, List.setIfInBounds_toArray, List.set_cons_zero, List.set_cons_succ]
          refine wpAnyH_take (i := 29) (v := (.pointer (some ⟨gs, k * 82 + 40 + j, none⟩))) rfl (by kernel_rfl) (by kernel_rfl) (by kernel_rfl) (fun _ _ _ h => h) (Or.inl ⟨by rfl, fun wx hx => by go_simp⟩) hT0 ?_
          try dsimp only
          try simp only [Act.put, List.getElem_toArray, List.getElem_cons_succ, List.getElem_cons_zero, List.setIfInBounds_toArray, List.set_cons_zero, List.set_cons_succ]
          refine wpAnyH_all (rs := [30]) (by kernel_rfl) (by simp) ?_
          intro jj hjj
          simp only [List.mem_cons, List.not_mem_nil, or_false] at hjj
          subst hjj
          have hT3 : (fun w' : World => w'.cell? ⟨bk, 3, none⟩ = some (.slice (some ⟨gs, 0, none⟩) N cs) ∧ w'.cell? ⟨bk, 2, none⟩ = some (.int .i64 wid)) (wr.drew.setCell ⟨gs, k * 82 + 40 + j, none⟩ (.bool true)) := ⟨cell_set hbg hT0.1, cell_set hbg hT0.2⟩
          refine wpOp_of_wp rfl rfl (hideK ?_)
          intro K' hK'
          go_simp
          rw [hK'.out]
          refine ⟨hT3, ?_⟩
          try dsimp only
          try simp only [Act.put, List.getElem_toArray, List.getElem_cons_succ, List.getElem_cons_zero, List.setIfInBounds_toArray, List.set_cons_zero, List.set_cons_succ]
          refine wpAnyH_done (by kernel_rfl) ?_ _
          have HZ : Hid (KB w (wr.drew.setCell ⟨gs, k * 82 + 40 + j, none⟩ (.bool true)) own B0 gs N cs (C.set k (cAdv c wid (to') (j + 1)))) := HNX.out.below (w' := wr.drew.setCell ⟨gs, k * 82 + 40 + j, none⟩ (.bool true)) ⟨rfl, rfl, rfl, Nat.le_refl _, fun _ _ => rfl⟩
          clear hT0 hT3 cb fb d3 d2 HNX
          go_wp2
          go_roundw
          case rel => exact ⟨j + 1, by omega, by go_num, HZ.out⟩
          case measure => simp [intOf]; omega
        | false =>
          rw [Bool.false_or] at HNX
          refine wpAnyH_take (i := 16) (v := (.bool false)) rfl (by kernel_rfl) (by kernel_rfl) (by kernel_rfl) (fun _ _ _ h => h) (Or.inl ⟨by rfl, fun wx hx => by go_simp⟩) hT0 ?_
          try dsimp only
          try simp only [Act.put, List.getElem_toArray, List.getElem_cons_succ, List.getElem_cons_zero, List.setIfInBounds_toArray, List.set_cons_zero, List.set_cons_succ]
          refine wpAnyH_take (i := 17) (v := (.int .i64 j)) rfl (by kernel_rfl) (by kernel_rfl) (by kernel_rfl) (fun _ _ _ h => h) (Or.inl ⟨by rfl, fun wx hx => by go_simp⟩) hT0 ?_
          try dsimp only
          try simp only [Act.put, List.getElem_toArray, List.getElem_cons_succ, List.getElem_cons_zero, List.setIfInBounds_toArray, List.set_cons_zero, List.set_cons_succ]
          refine wpAnyH_take (i := 18) (v := (.int .i64 ((j : Int) + 1))) rfl (by kernel_rfl) (by kernel_rfl) (by kernel_rfl) (fun _ _ _ h => h) (Or.inl ⟨by rfl, fun wx hx => by go_simp⟩) hT0 ?_
          try dsimp only
          try simp only [Act.put, List.getElem_toArray, List.getElem_cons_succ, List.getElem_cons_zero, List.setIfInBounds_toArray, List.set_cons_zero, List.set_cons_succ]
          refine wpAnyH_take (i := 19) (v := (.pointer (some ⟨bk, 0, none⟩))) rfl (by kernel_rfl) (by kernel_rfl) (by kernel_rfl) (fun _ _ _ h => h) (Or.inl ⟨by rfl, fun wx hx => by go_simp⟩) hT0 ?_
          try dsimp only
          try simp only [Act.put, List.getElem_toArray, List.getElem_cons_succ, List.getElem_cons_zero, List.setIfInBounds_toArray, List.set_cons_zero, List.set_cons_succ]
          refine wpAnyH_take (i := 20) (v := (.pointer (some ⟨bk, 0, none⟩))) rfl (by kernel_rfl) (by kernel_rfl) (by kernel_rfl) (fun _ _ _ h => h) (Or.inl ⟨by rfl, fun wx hx => by go_simp⟩) hT0 ?_
          try dsimp only
          try simp only [Act.put, List.getElem_toArray, List.getElem_cons_succ, List.getElem_cons_zero, List.setIfInBounds_toArray, List.set_cons_zero, List.set_cons_succ]
          refine wpAnyH_take (i := 21) (v := (.pointer (some ⟨bk, 2, none⟩))) rfl (by kernel_rfl) (by kernel_rfl) (by kernel_rfl) (fun _ _ _ h => h) (Or.inl ⟨by rfl, fun wx hx => by go_simp⟩) hT0 ?_
          try dsimp only
          try simp only [Act.put, List.getElem_toArray, List.getElem_cons_succ, List.getElem_cons_zero, List.setIfInBounds_toArray, List.set_cons_zero, List.set_cons_succ]
          refine wpAnyH_take (i := 22) (v := (.int .i64 wid)) rfl (by kernel_rfl) (by kernel_rfl) (by kernel_rfl) (fun _ _ _ h => h) (Or.inl ⟨by rfl, fun wx hx => by have hx1 := hx.2; go_simp⟩) hT0 ?_
          try dsimp only
          try simp only [Act.put, List.getElem_toArray, List.getElem_cons_succ, List.getElem_cons_zero, List.setIfInBounds_toArray, List.set_cons_zero, List.set_cons_succ]
          refine wpAnyH_take (i := 23) (v := (.int .i64 ej)) rfl (by kernel_rfl) (by kernel_rfl) (by kernel_rfl) (fun _ _ _ h => h) (Or.inl ⟨by rfl, fun wx hx => by go_simp⟩) hT0 ?_
          try dsimp only
          try simp only [Act.put, List.getElem_toArray, List.getElem_cons_succ, List.getElem_cons_zero, List.setIfInBounds_toArray, List.set_cons_zero, List.set_cons_succ]
          refine wpAnyH_take (i := 24) (v := (.int .i64 (to'))) rfl (by kernel_rfl) (by kernel_rfl) (by kernel_rfl) (fun _ _ _ h => h) (Or.inl ⟨by rfl, fun wx hx => by go_simp⟩) hT0 ?_
          try dsimp only
          try simp only [Act.put, List.getElem_toArray, List.getElem_cons_succ, List.getElem_cons_zero, List.setIfInBounds_toArray, List.set_cons_zero, List.set_cons_succ]
          refine wpAnyH_take (i := 25) (v := (.bool (decide (ej ≤ to')))) rfl (by kernel_rfl) (by kernel_rfl) (by kernel_rfl) (fun _ _ _ h => h) (Or.inl ⟨by rfl, fun wx hx => by go_simp⟩) hT0 ?_
          try dsimp only
          try simp only [Act.put, List.getElem_toArray, List.getElem_cons_succ, List.getElem_cons_zero, List.setIfInBounds_toArray, List.set_cons_zero, List.set_cons_succ]
          refine wpAnyH_take (i := 26) (v := (.bool (decide (ej ≤ to')))) rfl (by kernel_rfl) (by kernel_rfl) (by kernel_rfl) (fun _ _ _ h => h) (Or.inl ⟨by rfl, fun wx hx => by go_simp⟩) hT0 ?_
          try dsimp only
          try simp only [Act.put, List.getElem_toArray, List.getElem_cons_succ, List.getElem_cons_zero, List.setIfInBounds_toArray, List.set_cons_zero, List.set_cons_succ]
          refine wpAnyH_take (i := 29) (v := (.pointer (some ⟨gs, k * 82 + 40 + j, none⟩))) rfl (by kernel_rfl) (by kernel_rfl) (by kernel_rfl) (fun _ _ _ h => h) (Or.inl ⟨by rfl, fun wx hx => by go_simp⟩) hT0 ?_
          try dsimp only
          try simp only [Act.put, List.getElem_toArray, List.getElem_cons_succ, List.getElem_cons_zero, List.setIfInBounds_toArray, List.set_cons_zero, List.set_cons_succ]
          refine wpAnyH_all (rs := [30]) (by kernel_rfl) (by simp) ?_
          intro jj hjj
          simp only [List.mem_cons, List.not_mem_nil, or_false] at hjj
          subst hjj
          have hT3 : (fun w' : World => w'.cell? ⟨bk, 3, none⟩ = some (.slice (some ⟨gs, 0, none⟩) N cs) ∧ w'.cell? ⟨bk, 2, none⟩ = some (.int .i64 wid)) (wr.drew.setCell ⟨gs, k * 82 + 40 + j, none⟩ (.bool (decide (ej ≤ to')))) := ⟨cell_set hbg hT0.1, cell_set hbg hT0.2⟩
          refine wpOp_of_wp rfl rfl (hideK ?_)
          intro K' hK'
          go_simp
          rw [hK'.out]
          refine ⟨hT3, ?_⟩
          try dsimp only
          try simp only [Act.put, List.getElem_toArray, List.getElem_cons_succ, List.getElem_cons_zero, List.setIfInBounds_toArray, List.set_cons_zero, List.set_cons_succ]
          refine wpAnyH_done (by kernel_rfl) ?_ _
          have HZ : Hid (KB w (wr.drew.setCell ⟨gs, k * 82 + 40 + j, none⟩ (.bool (decide (ej ≤ to')))) own B0 gs N cs (C.set k (cAdv c wid (to') (j + 1)))) := HNX.out.below (w' := wr.drew.setCell ⟨gs, k * 82 + 40 + j, none⟩ (.bool (decide (ej ≤ to')))) ⟨rfl, rfl, rfl, Nat.le_refl _, fun _ _ => rfl⟩
          clear hT0 hT3 cb fb d3 d2 HNX
          go_wp2
          go_roundw
          case rel => exact ⟨j + 1, by omega, by go_num, HZ.out⟩
          case measure => simp [intOf]; omega
      · obtain rfl : j = 20 := by omega
        go_wp2_with (go_at_call 43; refine (HQ.out.advance wr own B0 bs t wid D (HR.out.chg HG.out.st HKB.out.f (Same.refl _ _) (fun i => by simp)) (HG.out.di.mono' (by omega)) (Nat.le_trans HG.out.b0 HKB.out.f.size) k (to') ⟨by omega, by omega⟩ ⟨by omega, by omega⟩).mono ?_; rintro e w5 ⟨rfl, own5, hst, hsm, hfr⟩; rw [HE.out]; rw [HD.out] at hst; have HZ : Hid (SR w5 own5 B0 bs t wid (D.set k { d with lmk := to', lcl := clTo d.lcl wid (to') 20 }) ∧ Same wr own own5 ∧ Fr own isSt wr w5) := ⟨hst, hsm, hfr⟩; clear hst hsm hfr)
        go_ret
        refine ⟨rfl, _, HBE.out.1, HBE.out.2.1, HBE.out.2.2, KN.tt HD.out <| HG.out.fin k c (cAdv c wid (to') 20) d { d with lmk := to', lcl := clTo d.lcl wid (to') 20 } HCD.out.1 HCD.out.2 (by rw [HN.out]; exact HKB.out) HZ.out.1 HZ.out.2.1 HZ.out.2.2 (fun v _ => rfl) (fun v _ => rfl) HRP.out.1.kept (fun v hv => ?_) HRP.out.1.sh rfl HRP.out.1.saved HI.out (HG.out.di k d HCD.out.2) ⟨HRP.out.2.lev, HRP.out.2.kev, by show 0 ≤ to'; omega, by show to' ≤ 20 * wid; have := HEN.out; omega, HRP.out.2.km0, HRP.out.2.km1⟩⟩
        show clTo c.cl wid (to') 20 v = clTo d.lcl wid (to') 20 v
        unfold clTo
        rw [HRP.out.1.cl v hv]
  · have het : to' = lm + pb := by rw [HTO.out, if_neg hbig]
    clear HTO
    subst het
    go_wp2
    go_loopw [9] (fun i wr => ∃ j : Nat, j ≤ 20 ∧ i = .int .i64 j ∧ KB w wr own B0 gs N cs (C.set k (cAdv c wid (lm + pb) j))) (fun i _ => 20 - (intOf i).toNat)
    case atStart => exact ⟨0, by omega, rfl, HK0'.out⟩
    case round =>
      clear HK0' fm2
      obtain ⟨j, hj, rfl, kb⟩ := hrel
      have HKB : Hid (KB w wr own B0 gs N cs (C.set k (cAdv c wid (lm + pb) j))) := kb
      have d3 : wr.cell? ⟨bk, 3, none⟩ = some (.slice (some ⟨gs, 0, none⟩) N cs) := cell_fr' kb.f (by rw [cell_of_row _ _ _ _ _ _ HG.out.run, ← HN.out]; rfl) (by rw [HG.out.gm]; simp) (by rw [HG.out.gm]; simp)
      have d2 : wr.cell? ⟨bk, 2, none⟩ = some (.int .i64 wid) := cell_fr' kb.f (by rw [cell_of_row _ _ _ _ _ _ HG.out.run]; rfl) (by rw [HG.out.gm]; simp) (by rw [HG.out.gm]; simp)
      have d0 : wr.cell? ⟨bk, 0, none⟩ = some (.pointer (some ⟨bs, 0, none⟩)) := cell_fr' kb.f (by rw [cell_of_row _ _ _ _ _ _ HG.out.run]; rfl) (by rw [HG.out.gm]; simp) (by rw [HG.out.gm]; simp)
      have hkC : (C.set k (cAdv c wid (lm + pb) j))[k]? = some (cAdv c wid (lm + pb) j) := List.getElem?_set_self (List.getElem?_eq_some_iff.1 HCD.out.1).1
      clear kb
      by_cases hlj : j < 20
      · have cb : wr.cell? ⟨gs, k * 82 + 40 + j, none⟩ = some (.bool (c.cl j)) := by
          rw [Nat.add_assoc, ← cAdv_cl c wid (lm + pb) j hlj]
          exact HKB.out.o.cell_at k _ hkC (40 + j) _ (by show (cAdv c wid (lm + pb) j).cells[40 + j]? = _; rw [SrcC.get _ _ (by omega), SrcC.at_cl _ j hlj])
        have fb : wr.frozen? ⟨gs, k * 82 + 40 + j, none⟩ = false := by obtain ⟨cur, hcur⟩ := HKB.out.o.blk; exact frozen_of_row _ _ _ _ _ hcur
        have HNX : Hid (KB w (wr.setCell ⟨gs, k * 82 + 40 + j, none⟩ (.bool (c.cl j || decide (((j : Int) + 1) * wid ≤ lm + pb)))) own B0 gs N cs (C.set k (cAdv c wid (lm + pb) (j + 1)))) := by
          have z := HKB.out.set tgs k _ (cAdv c wid (lm + pb) (j + 1)) hkC (40 + j) (by omega) _ (cAdv_at c wid (lm + pb) j hlj) (cAdv_oth c wid (lm + pb) j hlj)
          rw [List.set_set] at z
          unfold Hid; rw [Nat.add_assoc]; exact z
        obtain ⟨b, hb⟩ : ∃ b, c.cl j = b := ⟨_, rfl⟩
        rw [hb] at cb HNX
        obtain ⟨ej, hej⟩ : ∃ ej, ej = ((j : Int) + 1) * wid := ⟨_, rfl⟩
        have hjb : ((j : Int) + 1) * wid ≤ 20 * 1000 := Int.mul_le_mul (by omega) (by omega) (by omega) (by omega)
        have hj0 : 0 ≤ ((j : Int) + 1) * wid := Int.mul_nonneg (by omega) (by omega)
        rw [← hej] at HNX hjb hj0
        have e1 : IntKind.i64.wrap ((j : Int) + 1) = (j : Int) + 1 := IntWalk.i64_in _ ⟨by omega, by omega⟩
        have e2 : IntKind.i64.wrap (((j : Int) + 1) * wid) = ej := by rw [← hej]; exact IntWalk.i64_in _ ⟨by omega, by omega⟩
        have j0 : (0 : Int) ≤ (j : Int) := by omega
        have j1 : (j : Int) < 20 := by omega
        clear hb hej hkC d0
        go_upto_region 9 with fail
        have hT0 : (fun w' : World => w'.cell? ⟨bk, 3, none⟩ = some (.slice (some ⟨gs, 0, none⟩) N cs) ∧ w'.cell? ⟨bk, 2, none⟩ = some (.int .i64 wid)) wr.drew := ⟨d3, d2⟩
        refine wp_region_held (S := fun w' : World => w'.cell? ⟨bk, 3, none⟩ = some (.slice (some ⟨gs, 0, none⟩) N cs) ∧ w'.cell? ⟨bk, 2, none⟩ = some (.int .i64 wid)) mixed ?_
        refine wpAnyH_take (i := 0) (v := (.pointer (some ⟨bk, 0, none⟩))) rfl (by kernel_rfl) (by kernel_rfl) (by kernel_rfl) (fun _ _ _ h => h) (Or.inl ⟨by rfl, fun wx hx => by go_simp⟩) hT0 ?_
        try dsimp only
        try simp only [Act.put, List.getElem_toArray, List.getElem_cons_succ, List.getElem_cons_zero, List.setIfInBounds_toArray, List.set_cons_zero, List.set_cons_succ]
        refine wpAnyH_take (i := 1) (v := (.pointer (some ⟨bk, 0, none⟩))) rfl (by kernel_rfl) (by kernel_rfl) (by kernel_rfl) (fun _ _ _ h => h) (Or.inl ⟨by rfl, fun wx hx => by go_simp⟩) hT0 ?_
        try dsimp only
        try simp only [Act.put, List.getElem_toArray, List.getElem_cons_succ, List.getElem_cons_zero, List.setIfInBounds_toArray, List.set_cons_zero, List.set_cons_succ]
        refine wpAnyH_take (i := 2) (v := (.pointer (some ⟨bk, 3, none⟩))) rfl (by kernel_rfl) (by kernel_rfl) (by kernel_rfl) (fun _ _ _ h => h) (Or.inl ⟨by rfl, fun wx hx => by go_simp⟩) hT0 ?_
        try dsimp only
        try simp only [Act.put, List.getElem_toArray, List.getElem_cons_succ, List.getElem_cons_zero, List.setIfInBounds_toArray, List.set_cons_zero, List.set_cons_succ]
        refine wpAnyH_take (i := 3) (v := (.slice (some ⟨gs, 0, none⟩) N cs)) rfl (by kernel_rfl) (by kernel_rfl) (by kernel_rfl) (fun _ _ _ h => h) (Or.inl ⟨by rfl, fun wx hx => by have hx1 := hx.1; go_simp⟩) hT0 ?_
        try dsimp only
        try simp only [Act.put, List.getElem_toArray, List.getElem_cons_succ, List.getElem_cons_zero, List.setIfInBounds_toArray, List.set_cons_zero, List.set_cons_succ]
        refine wpAnyH_take (i := 4) (v := (.int .i64 k)) rfl (by kernel_rfl) (by kernel_rfl) (by kernel_rfl) (fun _ _ _ h => h) (Or.inl ⟨by rfl, fun wx hx => by go_simp⟩) hT0 ?_
        try dsimp only
        try simp only [Act.put, List.getElem_toArray, List.getElem_cons_succ, List.getElem_cons_zero, List.setIfInBounds_toArray, List.set_cons_zero, List.set_cons_succ]
        refine wpAnyH_take (i := 5) (v := (.int .i64 j)) rfl (by kernel_rfl) (by kernel_rfl) (by kernel_rfl) (fun _ _ _ h => h) (Or.inl ⟨by rfl, fun wx hx => by go_simp⟩) hT0 ?_
        try dsimp only
        try simp only [Act.put, List.getElem_toArray, List.getElem_cons_succ, List.getElem_cons_zero, List.setIfInBounds_toArray, List.set_cons_zero, List.set_cons_succ]
        refine wpAnyH_take (i := 6) (v := (.pointer (some ⟨bk, 0, none⟩))) rfl (by kernel_rfl) (by kernel_rfl) (by kernel_rfl) (fun _ _ _ h => h) (Or.inl ⟨by rfl, fun wx hx => by go_simp⟩) hT0 ?_
        try dsimp only
        try simp only [Act.put, List.getElem_toArray, List.getElem_cons_succ, List.getElem_cons_zero, List.setIfInBounds_toArray, List.set_cons_zero, List.set_cons_succ]
        refine wpAnyH_take (i := 7) (v := (.pointer (some ⟨bk, 0, none⟩))) rfl (by kernel_rfl) (by kernel_rfl) (by kernel_rfl) (fun _ _ _ h => h) (Or.inl ⟨by rfl, fun wx hx => by go_simp⟩) hT0 ?_
        try dsimp only
        try simp only [Act.put, List.getElem_toArray, List.getElem_cons_succ, List.getElem_cons_zero, List.setIfInBounds_toArray, List.set_cons_zero, List.set_cons_succ]
        refine wpAnyH_take (i := 8) (v := (.pointer (some ⟨bk, 3, none⟩))) rfl (by kernel_rfl) (by kernel_rfl) (by kernel_rfl) (fun _ _ _ h => h) (Or.inl ⟨by rfl, fun wx hx => by go_simp⟩) hT0 ?_
        try dsimp only
        try simp only [Act.put, List.getElem_toArray, List.getElem_cons_succ, List.getElem_cons_zero, List.setIfInBounds_toArray, List.set_cons_zero, List.set_cons_succ]
        refine wpAnyH_take (i := 9) (v := (.slice (some ⟨gs, 0, none⟩) N cs)) rfl (by kernel_rfl) (by kernel_rfl) (by kernel_rfl) (fun _ _ _ h => h) (Or.inl ⟨by rfl, fun wx hx => by have hx1 := hx.1; go_simp⟩) hT0 ?_
        try dsimp only
        try simp only [Act.put, List.getElem_toArray, List.getElem_cons_succ, List.getElem_cons_zero, List.setIfInBounds_toArray, List.set_cons_zero, List.set_cons_succ]
        refine wpAnyH_take (i := 10) (v := (.int .i64 k)) rfl (by kernel_rfl) (by kernel_rfl) (by kernel_rfl) (fun _ _ _ h => h) (Or.inl ⟨by rfl, fun wx hx => by go_simp⟩) hT0 ?_
        try dsimp only
        try simp only [Act.put, List.getElem_toArray, List.getElem_cons_succ, List.getElem_cons_zero, List.setIfInBounds_toArray, List.set_cons_zero, List.set_cons_succ]
        refine wpAnyH_take (i := 11) (v := (.int .i64 j)) rfl (by kernel_rfl) (by kernel_rfl) (by kernel_rfl) (fun _ _ _ h => h) (Or.inl ⟨by rfl, fun wx hx => by go_simp⟩) hT0 ?_
        try dsimp only
        try simp only [Act.put, List.getElem_toArray, List.getElem_cons_succ, List.getElem_cons_zero, List.setIfInBounds_toArray, List.set_cons_zero, List.set_cons_succ]
        refine wpAnyH_take (i := 12) (v := (.pointer (some ⟨gs, k * 82, none⟩))) rfl (by kernel_rfl) (by kernel_rfl) (by kernel_rfl) (fun _ _ _ h => h) (Or.inl ⟨by rfl, fun wx hx => by go_simp⟩) hT0 ?_
        try dsimp only
        try simp only [Act.put, List.getElem_toArray, List.getElem_cons_succ, List.getElem_cons_zero, List.setIfInBounds_toArray, List.set_cons_zero, List.set_cons_succ]
        refine wpAnyH_take (i := 13) (v := (.pointer (some ⟨gs, k * 82 + 40, none⟩))) rfl (by kernel_rfl) (by kernel_rfl) (by kernel_rfl) (fun _ _ _ h => h) (Or.inl ⟨by rfl, fun wx hx => by go_simp⟩) hT0 ?_
        try dsimp only
        try simp only [Act.put, List.getElem_toArray, List.getElem_cons_succ, List.getElem_cons_zero, List.setIfInBounds_toArray, List.set_cons_zero, List.set_cons_succ]
        refine wpAnyH_take (i := 14) (v := (.pointer (some ⟨gs, k * 82 + 40 + j, none⟩))) rfl (by kernel_rfl) (by kernel_rfl) (by kernel_rfl) (fun _ _ _ h => h) (Or.inl ⟨by rfl, fun wx hx => by go_simp⟩) hT0 ?_
        try dsimp only
        try simp only [Act.put, List.getElem_toArray, List.getElem_cons_succ, List.getElem_cons_zero, List.setIfInBounds_toArray, List.set_cons_zero, List.set_cons_succ]
        refine wpAnyH_take (i := 27) (v := (.pointer (some ⟨gs, k * 82, none⟩))) rfl (by kernel_rfl) (by kernel_rfl) (by kernel_rfl) (fun _ _ _ h => h) (Or.inl ⟨by rfl, fun wx hx => by go_simp⟩) hT0 ?_
        try dsimp only
        try simp only [Act.put, List.getElem_toArray, List.getElem_cons_succ, List.getElem_cons_zero, List.setIfInBounds_toArray, List.set_cons_zero, List.set_cons_succ]
        refine wpAnyH_take (i := 28) (v := (.pointer (some ⟨gs, k * 82 + 40, none⟩))) rfl (by kernel_rfl) (by kernel_rfl) (by kernel_rfl) (fun _ _ _ h => h) (Or.inl ⟨by rfl, fun wx hx => by go_simp⟩) hT0 ?_
        try dsimp only
        try simp only [Act.put, List.getElem_toArray, List.getElem_cons_succ, List.getElem_cons_zero, List.setIfInBounds_toArray, List.set_cons_zero, List.set_cons_succ]
        refine wpAnyH_all (rs := [15]) (by kernel_rfl) (by simp) ?_
        intro jj hjj
        simp only [List.mem_cons, List.not_mem_nil, or_false] at hjj
        subst hjj
        refine wpOp_of_wp rfl rfl (hideK ?_)
        intro K' hK'
        go_simp
        rw [hK'.out]
        refine ⟨hT0, ?_⟩
        try dsimp only
        try simp only [Act.put, List.getElem_toArray, List.getElem_cons_succ, List.getElem_cons_zero, List.setIfInBounds_toArray, List.set_cons_zero, List.set_cons_succ]
        cases b with
        | true =>
          rw [Bool.true_or] at HNX
          refine wpAnyH_take (i := 16) (v := (.bool true)) rfl (by kernel_rfl) (by kernel_rfl) (by kernel_rfl) (fun _ _ _ h => h) (Or.inl ⟨by rfl, fun wx hx => by go_simp⟩) hT0 ?_
          try dsimp only
          try simp only [Act.put, List.getElem_toArray, List.getElem_cons_succ, List.getElem_cons_zero, List.setIfInBounds_toArray, List.set_cons_zero, List.set_cons_succ]
          refine wpAnyH_take (i := 17) (v := undef) rfl (by kernel_rfl) (by kernel_rfl) (by kernel_rfl) (fun _ _ _ h => h) (Or.inr ⟨by rfl, rfl⟩) hT0 ?_
          try dsimp only
          try simp only [Act.put, List.getElem_toArray, List.getElem_cons_succ, List.getElem_cons_zero, List.setIfInBounds_toArray, List.set_cons_zero, List.set_cons_succ]
          refine wpAnyH_take (i := 18) (v := undef) rfl (by kernel_rfl) (by kernel_rfl) (by kernel_rfl) (fun _ _ _ h => h) (Or.inr ⟨by rfl, rfl⟩) hT0 ?_
          try dsimp only
          try simp only [Act.put, List.getElem_toArray, List.getElem_cons_succ, List.getElem_cons_zero, List.setIfInBounds_toArray, List.set_cons_zero, List.set_cons_succ]
          refine wpAnyH_take (i := 19) (v := undef) rfl (by kernel_rfl) (by kernel_rfl) (by kernel_rfl) (fun _ _ _ h => h) (Or.inr ⟨by rfl, rfl⟩) hT0 ?_
          try dsimp only
          try simp only [Act.put, List.getElem_toArray, List.getElem_cons_succ, List.getElem_cons_zero, List.setIfInBounds_toArray, List.set_cons_zero, List.set_cons_succ]
          refine wpAnyH_take (i := 20) (v := undef) rfl (by kernel_rfl) (by kernel_rfl) (by kernel_rfl) (fun _ _ _ h => h) (Or.inr ⟨by rfl, rfl⟩) hT0 ?_
          try dsimp only
          try simp only [Act.put, List.getElem_toArray, List.getElem_cons_succ, List.getElem_cons_zero, List.setIfInBounds_toArray, List.set_cons_zero, List.set_cons_succ]
          refine wpAnyH_take (i := 21) (v := undef) rfl (by kernel_rfl) (by kernel_rfl) (by kernel_rfl) (fun _ _ _ h => h) (Or.inr ⟨by rfl, rfl⟩) hT0 ?_
          try dsimp only
          try simp only [Act.put, List.getElem_toArray, List.getElem_cons_succ, List.getElem_cons_zero, List.setIfInBounds_toArray, List.set_cons_zero, List.set_cons_succ]
          refine wpAnyH_take (i := 22) (v := undef) rfl (by kernel_rfl) (by kernel_rfl) (by kernel_rfl) (fun _ _ _ h => h) (Or.inr ⟨by rfl, rfl⟩) hT0 ?_
          try dsimp only
          try simp only [Act.put, List.getElem_toArray, List.getElem_cons_succ, List.getElem_cons_zero, List.setIfInBounds_toArray, List.set_cons_zero, List.set_cons_succ]
          refine wpAnyH_take (i := 23) (v := undef) rfl (by kernel_rfl) (by kernel_rfl) (by kernel_rfl) (fun _ _ _ h => h) (Or.inr ⟨by rfl, rfl⟩) hT0 ?_
          try dsimp only
          try simp only [Act.put, List.getElem_toArray, List.getElem_cons_succ, List.getElem_cons_zero, List.setIfInBounds_toArray, List.set_cons_zero, List.set_cons_succ]
          refine wpAnyH_take (i := 24) (v := undef) rfl (by kernel_rfl) (by kernel_rfl) (by kernel_rfl) (fun _ _ _ h => h) (Or.inr ⟨by rfl, rfl⟩) hT0 ?_
          try dsimp only
          try simp only [Act.put, List.getElem_toArray, List.getElem_cons_succ, List.getElem_cons_zero, List.setIfInBounds_toArray, List.set_cons_zero, List.set_cons_succ]
          refine wpAnyH_take (i := 25) (v := undef) rfl (by kernel_rfl) (by kernel_rfl) (by kernel_rfl) (fun _ _ _ h => h) (Or.inr ⟨by rfl, rfl⟩) hT0 ?_
          try dsimp only
          try simp only [Act.put, List.getElem_toArray, List.getElem_cons_succ, List.getElem_cons_zero, List.setIfInBounds_toArray, List.set_cons_zero, List.set_cons_succ]
          refine wpAnyH_take (i := 26) (v := (.bool true)) rfl (by kernel_rfl) (by kernel_rfl) (by kernel_rfl) (fun _ _ _ h => h) (Or.inl ⟨by rfl, fun wx hx => by go_simp⟩) hT0 ?_
          try dsimp only
          try simp only [Act.put, List.getElem_toArray, List.getElem_cons_succ, List.getElem_cons_zero, List.setIfInBounds_toArray, List.set_cons_zero, List.set_cons_succ]
          refine wpAnyH_take (i := 29) (v := (.pointer (some ⟨gs, k * 82 + 40 + j, none⟩))) rfl (by kernel_rfl) (by kernel_rfl) (by kernel_rfl) (fun _ _ _ h => h) (Or.inl ⟨by rfl, fun wx hx => by go_simp⟩) hT0 ?_
          try dsimp only
          try simp only [Act.put, List.getElem_toArray, List.getElem_cons_succ, List.getElem_cons_zero, List.setIfInBounds_toArray, List.set_cons_zero, List.set_cons_succ]
          refine wpAnyH_all (rs := [30]) (by kernel_rfl) (by simp) ?_
          intro jj hjj
          simp only [List.mem_cons, List.not_mem_nil, or_false] at hjj
          subst hjj
          have hT3 : (fun w' : World => w'.cell? ⟨bk, 3, none⟩ = some (.slice (some ⟨gs, 0, none⟩) N cs) ∧ w'.cell? ⟨bk, 2, none⟩ = some (.int .i64 wid)) (wr.drew.setCell ⟨gs, k * 82 + 40 + j, none⟩ (.bool true)) := ⟨cell_set hbg hT0.1, cell_set hbg hT0.2⟩
          refine wpOp_of_wp rfl rfl (hideK ?_)
          intro K' hK'
          go_simp
          rw [hK'.out]
          refine ⟨hT3, ?_⟩
          try dsimp only
          try simp only [Act.put, List.getElem_toArray, List.getElem_cons_succ, List.getElem_cons_zero, List.setIfInBounds_toArray, List.set_cons_zero, List.set_cons_succ]
          refine wpAnyH_done (by kernel_rfl) ?_ _
          have HZ : Hid (KB w (wr.drew.setCell ⟨gs, k * 82 + 40 + j, none⟩ (.bool true)) own B0 gs N cs (C.set k (cAdv c wid (lm + pb) (j + 1)))) := HNX.out.below (w' := wr.drew.setCell ⟨gs, k * 82 + 40 + j, none⟩ (.bool true)) ⟨rfl, rfl, rfl, Nat.le_refl _, fun _ _ => rfl⟩
          clear hT0 hT3 cb fb d3 d2 HNX
          go_wp2
          go_roundw
          case rel => exact ⟨j + 1, by omega, by go_num, HZ.out⟩
          case measure => simp [intOf]; omega
        | false =>
          rw [Bool.false_or] at HNX
          refine wpAnyH_take (i := 16) (v := (.bool false)) rfl (by kernel_rfl) (by kernel_rfl) (by kernel_rfl) (fun _ _ _ h => h) (Or.inl ⟨by rfl, fun wx hx => by go_simp⟩) hT0 ?_
          try dsimp only
          try simp only [Act.put, List.getElem_toArray, List.getElem_cons_succ, List.getElem_cons_zero, List.setIfInBounds_toArray, List.set_cons_zero, List.set_cons_succ]
          refine wpAnyH_take (i := 17) (v := (.int .i64 j)) rfl (by kernel_rfl) (by kernel_rfl) (by kernel_rfl) (fun _ _ _ h => h) (Or.inl ⟨by rfl, fun wx hx => by go_simp⟩) hT0 ?_
          try dsimp only
          try simp only [Act.put, List.getElem_toArray, List.getElem_cons_succ, List.getElem_cons_zero, List.setIfInBounds_toArray, List.set_cons_zero, List.set_cons_succ]
          refine wpAnyH_take (i := 18) (v := (.int .i64 ((j : Int) + 1))) rfl (by kernel_rfl) (by kernel_rfl) (by kernel_rfl) (fun _ _ _ h => h) (Or.inl ⟨by rfl, fun wx hx => by go_simp⟩) hT0 ?_
          try dsimp only
          try simp only [Act.put, List.getElem_toArray, List.getElem_cons_succ, List.getElem_cons_zero, List.setIfInBounds_toArray, List.set_cons_zero, List.set_cons_succ]
          refine wpAnyH_take (i := 19) (v := (.pointer (some ⟨bk, 0, none⟩))) rfl (by kernel_rfl) (by kernel_rfl) (by kernel_rfl) (fun _ _ _ h => h) (Or.inl ⟨by rfl, fun wx hx => by go_simp⟩) hT0 ?_
          try dsimp only
          try simp only [Act.put, List.getElem_toArray, List.getElem_cons_succ, List.getElem_cons_zero, List.setIfInBounds_toArray, List.set_cons_zero, List.set_cons_succ]
          refine wpAnyH_take (i := 20) (v := (.pointer (some ⟨bk, 0, none⟩))) rfl (by kernel_rfl) (by kernel_rfl) (by kernel_rfl) (fun _ _ _ h => h) (Or.inl ⟨by rfl, fun wx hx => by go_simp⟩) hT0 ?_
          try dsimp only
          try simp only [Act.put, List.getElem_toArray, List.getElem_cons_succ, List.getElem_cons_zero, List.setIfInBounds_toArray, List.set_cons_zero, List.set_cons_succ]
          refine wpAnyH_take (i := 21) (v := (.pointer (some ⟨bk, 2, none⟩))) rfl (by kernel_rfl) (by kernel_rfl) (by kernel_rfl) (fun _ _ _ h => h) (Or.inl ⟨by rfl, fun wx hx => by go_simp⟩) hT0 ?_
          try dsimp only
          try simp only [Act.put, List.getElem_toArray, List.getElem_cons_succ, List.getElem_cons_zero, List.setIfInBounds_toArray, List.set_cons_zero, List.set_cons_succ]
          refine wpAnyH_take (i := 22) (v := (.int .i64 wid)) rfl (by kernel_rfl) (by kernel_rfl) (by kernel_rfl) (fun _ _ _ h => h) (Or.inl ⟨by rfl, fun wx hx => by have hx1 := hx.2; go_simp⟩) hT0 ?_
          try dsimp only
          try simp only [Act.put, List.getElem_toArray, List.getElem_cons_succ, List.getElem_cons_zero, List.setIfInBounds_toArray, List.set_cons_zero, List.set_cons_succ]
          refine wpAnyH_take (i := 23) (v := (.int .i64 ej)) rfl (by kernel_rfl) (by kernel_rfl) (by kernel_rfl) (fun _ _ _ h => h) (Or.inl ⟨by rfl, fun wx hx => by go_simp⟩) hT0 ?_
          try dsimp only
          try simp only [Act.put, List.getElem_toArray, List.getElem_cons_succ, List.getElem_cons_zero, List.setIfInBounds_toArray, List.set_cons_zero, List.set_cons_succ]
          refine wpAnyH_take (i := 24) (v := (.int .i64 (lm + pb))) rfl (by kernel_rfl) (by kernel_rfl) (by kernel_rfl) (fun _ _ _ h => h) (Or.inl ⟨by rfl, fun wx hx => by go_simp⟩) hT0 ?_
          try dsimp only
          try simp only [Act.put, List.getElem_toArray, List.getElem_cons_succ, List.getElem_cons_zero, List.setIfInBounds_toArray, List.set_cons_zero, List.set_cons_succ]
          refine wpAnyH_take (i := 25) (v := (.bool (decide (ej ≤ lm + pb)))) rfl (by kernel_rfl) (by kernel_rfl) (by kernel_rfl) (fun _ _ _ h => h) (Or.inl ⟨by rfl, fun wx hx => by go_simp⟩) hT0 ?_
          try dsimp only
          try simp only [Act.put, List.getElem_toArray, List.getElem_cons_succ, List.getElem_cons_zero, List.setIfInBounds_toArray, List.set_cons_zero, List.set_cons_succ]
          refine wpAnyH_take (i := 26) (v := (.bool (decide (ej ≤ lm + pb)))) rfl (by kernel_rfl) (by kernel_rfl) (by kernel_rfl) (fun _ _ _ h => h) (Or.inl ⟨by rfl, fun wx hx => by go_simp⟩) hT0 ?_
          try dsimp only
          try simp only [Act.put, List.getElem_toArray, List.getElem_cons_succ, List.getElem_cons_zero, List.setIfInBounds_toArray, List.set_cons_zero, List.set_cons_succ]
          refine wpAnyH_take (i := 29) (v := (.pointer (some ⟨gs, k * 82 + 40 + j, none⟩))) rfl (by kernel_rfl) (by kernel_rfl) (by kernel_rfl) (fun _ _ _ h => h) (Or.inl ⟨by rfl, fun wx hx => by go_simp⟩) hT0 ?_
          try dsimp only
          try simp only [Act.put, List.getElem_toArray, List.getElem_cons_succ, List.getElem_cons_zero, List.setIfInBounds_toArray, List.set_cons_zero, List.set_cons_succ]
          refine wpAnyH_all (rs := [30]) (by kernel_rfl) (by simp) ?_
          intro jj hjj
          simp only [List.mem_cons, List.not_mem_nil, or_false] at hjj
          subst hjj
          have hT3 : (fun w' : World => w'.cell? ⟨bk, 3, none⟩ = some (.slice (some ⟨gs, 0, none⟩) N cs) ∧ w'.cell? ⟨bk, 2, none⟩ = some (.int .i64 wid)) (wr.drew.setCell ⟨gs, k * 82 + 40 + j, none⟩ (.bool (decide (ej ≤ lm + pb)))) := ⟨cell_set hbg hT0.1, cell_set hbg hT0.2⟩
          refine wpOp_of_wp rfl rfl (hideK ?_)
          intro K' hK'
          go_simp
          rw [hK'.out]
          refine ⟨hT3, ?_⟩
          try dsimp only
          try simp only [Act.put, List.getElem_toArray, List.getElem_cons_succ, List.getElem_cons_zero, List.setIfInBounds_toArray, List.set_cons_zero, List.set_cons_succ]
          refine wpAnyH_done (by kernel_rfl) ?_ _
          have HZ : Hid (KB w (wr.drew.setCell ⟨gs, k * 82 + 40 + j, none⟩ (.bool (decide (ej ≤ lm + pb)))) own B0 gs N cs (C.set k (cAdv c wid (lm + pb) (j + 1)))) := HNX.out.below (w' := wr.drew.setCell ⟨gs, k * 82 + 40 + j, none⟩ (.bool (decide (ej ≤ lm + pb)))) ⟨rfl, rfl, rfl, Nat.le_refl _, fun _ _ => rfl⟩
          clear hT0 hT3 cb fb d3 d2 HNX
          go_wp2
          go_roundw
          case rel => exact ⟨j + 1, by omega, by go_num, HZ.out⟩
          case measure => simp [intOf]; omega
      · obtain rfl : j = 20 := by omega
        go_wp2_with (go_at_call 43; refine (HQ.out.advance wr own B0 bs t wid D (HR.out.chg HG.out.st HKB.out.f (Same.refl _ _) (fun i => by simp)) (HG.out.di.mono' (by omega)) (Nat.le_trans HG.out.b0 HKB.out.f.size) k (lm + pb) ⟨by omega, by omega⟩ ⟨by omega, by omega⟩).mono ?_; rintro e w5 ⟨rfl, own5, hst, hsm, hfr⟩; rw [HE.out]; rw [HD.out] at hst; have HZ : Hid (SR w5 own5 B0 bs t wid (D.set k { d with lmk := lm + pb, lcl := clTo d.lcl wid (lm + pb) 20 }) ∧ Same wr own own5 ∧ Fr own isSt wr w5) := ⟨hst, hsm, hfr⟩; clear hst hsm hfr)
        go_ret
        refine ⟨rfl, _, HBE.out.1, HBE.out.2.1, HBE.out.2.2, KN.tt HD.out <| HG.out.fin k c (cAdv c wid (lm + pb) 20) d { d with lmk := lm + pb, lcl := clTo d.lcl wid (lm + pb) 20 } HCD.out.1 HCD.out.2 (by rw [HN.out]; exact HKB.out) HZ.out.1 HZ.out.2.1 HZ.out.2.2 (fun v _ => rfl) (fun v _ => rfl) HRP.out.1.kept (fun v hv => ?_) HRP.out.1.sh rfl HRP.out.1.saved HI.out (HG.out.di k d HCD.out.2) ⟨HRP.out.2.lev, HRP.out.2.kev, by show 0 ≤ lm + pb; omega, by show lm + pb ≤ 20 * wid; have := HEN.out; omega, HRP.out.2.km0, HRP.out.2.km1⟩⟩
        show clTo c.cl wid (lm + pb) 20 v = clTo d.lcl wid (lm + pb) 20 v
        unfold clTo
        rw [HRP.out.1.cl v hv]
end Go.Proofs.Ytpglbakcjihohab

/-! A run's node is stored. -/
namespace Go.Proofs.Ytpglbakcjihohab
open Go.RowKit
set_option maxRecDepth 100000

def boolL (f : Nat → Bool) : List Value := (List.range 20).map fun v => .bool (f v)
theorem boolL_len (f : Nat → Bool) : (boolL f).length = 20 := by simp [boolL]
theorem boolL_get (f : Nat → Bool) (v : Nat) (hv : v < 20) : (boolL f)[v]? = some (.bool (f v)) := by simp [boolL, hv]
theorem info_bools (f : Nat → Bool) : (Try.prog.info? 85).map (·.size) = some (boolL f).length := by rw [boolL_len]; kernel_rfl
theorem boolL_one (f : Nat → Bool) : (boolL f).toArray.all (·.oneCell') = true := by
  rw [Array.all_eq_true_iff_forall_mem]
  intro v hv
  obtain ⟨i, _, rfl⟩ := List.mem_map.1 (show v ∈ (List.range 20).map fun v => Value.bool (f v) by simpa [boolL] using hv)
  rfl
theorem KB.setB {w wr : World} {own : Ghost} {B0 gs N cs : Nat} {C : List SrcC} (h : KB w wr own B0 gs N cs C) (tgs : own gs = .wd 1) (k : Nat) (c c' : SrcC) (hc : C[k]? = some c) (j : Nat) (hj : j + 20 ≤ 82) (f : Nat → Bool) (hin : ∀ v, v < 20 → c'.at (j + v) = .bool (f v)) (hout : ∀ i, i < 82 → (i < j ∨ j + 20 ≤ i) → c'.at i = c.at i) :
    ∃ cur, wr.heap[gs]? = some (.cells cur 87) ∧ k * 82 + j + 20 ≤ cur.size ∧ KB w (wr.setRow gs (lay cur (k * 82 + j) (boolL f))) own B0 gs N cs (C.set k c') := by
  obtain ⟨cur, h1, h2, h3⟩ := h.o.part_set k c c' hc j (boolL f) (by rw [boolL_len]; exact hj) (fun v hv => by
    rw [boolL_len] at hv
    show c'.cells[j + v]? = _
    rw [c'.get _ (by omega), hin v hv, boolL_get f v hv]) (fun i hi => by
    show c'.cells[i]? = c.cells[i]?
    rw [boolL_len] at hi
    by_cases hl : i < 82
    · rw [c'.get _ hl, c.get _ hl, hout i hl hi]
    · rw [List.getElem?_eq_none (by rw [SrcC.len]; omega), List.getElem?_eq_none (by rw [SrcC.len]; omega)])
  rw [boolL_len] at h2
  refine ⟨cur, h1, h2, ⟨h.f.os, h.f.tape, h.f.output, by have := h.f.size; simpa using this, fun i hi hf hn => ?_⟩, h3⟩
  rw [setRow_other _ _ _ _ (fun e => hn (by rw [e]; exact tgs))]
  exact h.f.block i hi hf hn
theorem KB.range {w wr : World} {own : Ghost} {B0 gs N cs : Nat} {C : List SrcC} (h : KB w wr own B0 gs N cs C) (k : Nat) (c : SrcC) (hc : C[k]? = some c) (j : Nat) (hj : j + 20 ≤ 82) (f : Nat → Bool) (hin : ∀ v, v < 20 → c.at (j + v) = .bool (f v)) : wr.rangeAt gs (k * 82 + j) (boolL f) := fun v u hu => by
  have hv : v < 20 := by rw [← boolL_len f]; exact (List.getElem?_eq_some_iff.1 hu).1
  rw [boolL_get f v hv] at hu; cases hu
  rw [Nat.add_assoc]
  exact h.o.cell_at k c hc (j + v) _ (by show c.cells[j + v]? = _; rw [c.get _ (by omega), hin v hv])
theorem SrcC.at_out (c c' : SrcC) (i : Nat) (hi : i < 82) (h1 : c'.ev = c.ev) (h2 : c'.kept = c.kept) (h3 : i < 40 ∨ 60 ≤ i ∨ c'.cl = c.cl) (h4 : i < 60 ∨ 80 ≤ i ∨ c'.sh = c.sh) (h5 : i ≠ 80 ∨ c'.mark = c.mark) (h6 : i ≠ 81 ∨ c'.saved = c.saved) : c'.at i = c.at i := by
  unfold SrcC.at
  by_cases a1 : i < 20
  · rw [if_pos a1, if_pos a1, h1]
  · rw [if_neg a1, if_neg a1]
    by_cases a2 : i < 40
    · rw [if_pos a2, if_pos a2, h2]
    · rw [if_neg a2, if_neg a2]
      by_cases a3 : i < 60
      · rw [if_pos a3, if_pos a3]
        rcases h3 with h | h | h
        · omega
        · omega
        · rw [h]
      · rw [if_neg a3, if_neg a3]
        by_cases a4 : i < 80
        · rw [if_pos a4, if_pos a4]
          rcases h4 with h | h | h
          · omega
          · omega
          · rw [h]
        · rw [if_neg a4, if_neg a4]
          by_cases a5 : i = 80
          · rw [if_pos a5, if_pos a5]
            rcases h5 with h | h
            · omega
            · rw [h]
          · rw [if_neg a5, if_neg a5]
            rcases h6 with h | h
            · omega
            · rw [h]
def cKep (c : SrcC) (l : Nat → Int) (j : Nat) : SrcC := { c with kept := fun v => if v < j then l v else c.kept v }
theorem cKep_zero (c : SrcC) (l : Nat → Int) : cKep c l 0 = c := by simp [cKep]
theorem cKep_at (c : SrcC) (l : Nat → Int) (j : Nat) (hj : j < 20) : (cKep c l (j + 1)).at (20 + j) = .int .i64 (l j) := by
  rw [SrcC.at_kept _ j hj]
  show Value.int .i64 (if j < j + 1 then l j else c.kept j) = _
  rw [if_pos (by omega)]
theorem cKep_oth (c : SrcC) (l : Nat → Int) (j : Nat) (hj : j < 20) : ∀ i, i < 82 → i ≠ 20 + j → (cKep c l (j + 1)).at i = (cKep c l j).at i := fun i hi hne => by
  unfold SrcC.at cKep
  simp only []
  split
  · rfl
  · split
    · congr 1
      have : i - 20 ≠ j := by omega
      by_cases h : i - 20 < j
      · rw [if_pos h, if_pos (by omega)]
      · rw [if_neg h, if_neg (by omega)]
    · rfl
theorem set_self {α : Type} {l : List α} {k : Nat} {x : α} (h : l[k]? = some x) : l.set k x = l := by
  apply List.ext_getElem?
  intro i
  rw [List.getElem?_set]
  by_cases e : k = i
  · subst e; rw [if_pos rfl, if_pos (List.getElem?_eq_some_iff.1 h).1, h]
  · rw [if_neg e]
set_option maxHeartbeats 8000000 in
theorem ksync_any (SR : SRT) (R : PR SR) (Q : PS SR) (w : World) (own : Ghost) (B0 bk bs : Nat) (t : List Int) (wid : Int) (m : Nat) (D : List Nd) (A : List (Int × List It)) (hx : KX SR B0 bk bs t wid m D A w own) (hm : m < 100000000) (k : Nat) (hk : k < t.length) :
    Calls Try.prog 13 #[.pointer (some ⟨bk, 0, none⟩), .int .i64 k] w fun e w' => e = .returned (.bool true) ∧ KN SR B0 bk bs t wid m (synD t D k) A w own w' := by
  obtain ⟨vt, vs, vl, C, PK, g⟩ := hx
  obtain ⟨gs, cs, rfl⟩ := g.src
  obtain ⟨c, d, hc, hd, rep, nb⟩ := g.at k hk
  have h8 := g.T.le
  have hso : Own clSrc w B0 87 (.slice (some ⟨gs, 0, none⟩) t.length cs) C := g.so
  have tgs : own gs = .wd 1 := g.ts gs rfl
  obtain ⟨N, hN⟩ : ∃ N, t.length = N := ⟨_, rfl⟩
  have HN : Hid (t.length = N) := hN
  have hbg : bk ≠ gs := fun e => by have := g.gm; rw [e, tgs] at this; simp at this
  have HG : Hid (KD SR w own B0 bk bs t wid m D vt ⟨some ⟨gs, 0, none⟩, t.length, cs⟩ vl C PK A) := g
  have HR : Hid (PR SR) := R
  have HQ : Hid (PS SR) := Q
  have HCD : Hid (C[k]? = some c ∧ D[k]? = some d) := ⟨hc, hd⟩
  have HRP : Hid (SrcRep w own B0 k c d ∧ NdB wid d) := ⟨rep, nb⟩
  have hnd : isNd t k = true := by simp [isNd]; omega
  have HE : Hid (ndE t k = 0) := by unfold Hid ndE; rw [if_pos hnd]
  have HD : Hid (synD t D k = D.set k { d with kev := d.lev, kcl := d.lcl, kmk := d.lmk, saved := d.items }) := by unfold Hid synD; rw [if_pos hnd]; simp [hd]
  have HI : Hid (Inv t (D.set k { d with kev := d.lev, kcl := d.lcl, kmk := d.lmk, saved := d.items }) A) := by unfold Hid; rw [← HD.out]; exact inv_sync g.inv k
  obtain ⟨ll, hll⟩ : ∃ ll : Nat → Int, ll = fun v : Nat => ((evK d.lev (v : Int)).length : Int) := ⟨_, rfl⟩
  have HLL : Hid (∀ v : Nat, ll v = ((evK d.lev v).length : Int)) := fun v => by rw [hll]
  have HK0 : Hid (KB w w own B0 gs N cs (C.set k (cKep c ll 0))) := by
    unfold Hid
    rw [cKep_zero, set_self hc]
    exact ⟨Fr.refl _ _ _, by rw [← hN]; exact hso⟩
  have HLEN : Hid (∀ v : Nat, v < 20 → ((c.ev v).n : Int) = ll v ∧ (c.ev v).n ≤ 100000000) := fun v hv => by
    have h1 := (Own.sl (s := c.ev v) (rep.ev v hv)).1
    rw [HLL.out v]
    have h2 := evK_len d.lev v
    have h3 := (g.di k d hd).1
    simp at h1
    exact ⟨by omega, by omega⟩
  have k0 : (0 : Int) ≤ (k : Int) := by omega
  have k1 : (k : Int) < (N : Int) := by omega
  have HRUN : Hid (∀ wr, Fr own (fun t => t = .wd 1) w wr → wr.cell? ⟨bk, 3, none⟩ = some (.slice (some ⟨gs, 0, none⟩) N cs) ∧ wr.cell? ⟨bk, 0, none⟩ = some (.pointer (some ⟨bs, 0, none⟩))) := fun wr f => ⟨cell_fr' f (by rw [cell_of_row _ _ _ _ _ _ g.run, ← hN]; rfl) (by rw [g.gm]; simp) (by rw [g.gm]; simp), cell_fr' f (by rw [cell_of_row _ _ _ _ _ _ g.run]; rfl) (by rw [g.gm]; simp) (by rw [g.gm]; simp)⟩
  clear g R Q rep nb hd hc hso hN hll
  go_enter Try.func13, Try.ntmps13
  go_wp2
  go_loopw [5] (fun i wr => ∃ j : Nat, j ≤ 20 ∧ i = .int .i64 j ∧ KB w wr own B0 gs N cs (C.set k (cKep c ll j))) (fun i _ => 20 - (intOf i).toNat)
  case atStart => exact ⟨0, by omega, rfl, HK0.out⟩
  case round =>
    clear HK0
    obtain ⟨j, hj, rfl, kb⟩ := hrel
    have HKB : Hid (KB w wr own B0 gs N cs (C.set k (cKep c ll j))) := kb
    obtain ⟨d3, d0⟩ := HRUN.out wr kb.f
    have hkC : (C.set k (cKep c ll j))[k]? = some (cKep c ll j) := List.getElem?_set_self (List.getElem?_eq_some_iff.1 HCD.out.1).1
    clear kb
    by_cases hlj : j < 20
    · have cev : wr.cell? ⟨gs, k * 82 + j, none⟩ = some (.slice (c.ev j).p (c.ev j).n (c.ev j).c) := HKB.out.o.cell_at k _ hkC j _ (by show (cKep c ll j).cells[j]? = _; rw [SrcC.get _ _ (by omega), SrcC.at_ev _ j hlj]; rfl)
      obtain ⟨hln, hsm⟩ := HLEN.out j hlj
      have fb : wr.frozen? ⟨gs, k * 82 + 20 + j, none⟩ = false := by obtain ⟨cur, hcur⟩ := HKB.out.o.blk; exact frozen_of_row _ _ _ _ _ hcur
      have ck : ∃ u, wr.cell? ⟨gs, k * 82 + 20 + j, none⟩ = some u := ⟨_, by
        rw [Nat.add_assoc]
        exact HKB.out.o.cell_at k _ hkC (20 + j) _ (by show (cKep c ll j).cells[20 + j]? = _; rw [SrcC.get _ _ (by omega)])⟩
      obtain ⟨u, ck⟩ := ck
      have HNX : Hid (KB w (wr.setCell ⟨gs, k * 82 + 20 + j, none⟩ (.int .i64 (ll j))) own B0 gs N cs (C.set k (cKep c ll (j + 1)))) := by
        have z := HKB.out.set tgs k _ (cKep c ll (j + 1)) hkC (20 + j) (by omega) _ (cKep_at c ll j hlj) (cKep_oth c ll j hlj)
        rw [List.set_set] at z
        unfold Hid; rw [Nat.add_assoc]; exact z
      rw [← hln] at HNX
      obtain ⟨⟨ep, en, ec⟩, hsl⟩ : ∃ s, s = c.ev j := ⟨_, rfl⟩
      rw [← hsl] at cev HNX hsm
      replace cev : wr.cell? ⟨gs, k * 82 + j, none⟩ = some (.slice ep en ec) := cev
      have HNX' : Hid (KB w (wr.setCell ⟨gs, k * 82 + 20 + j, none⟩ (.int .i64 en)) own B0 gs N cs (C.set k (cKep c ll (j + 1)))) := HNX
      have j0 : (0 : Int) ≤ (j : Int) := by omega
      have j1 : (j : Int) < 20 := by omega
      clear hsl hln HNX hkC d0
      go_upto_region 4 with fail
      have hT0 : (fun w' : World => w'.cell? ⟨bk, 3, none⟩ = some (.slice (some ⟨gs, 0, none⟩) N cs) ∧ w'.cell? ⟨gs, k * 82 + j, none⟩ = some (.slice ep en ec)) wr.drew := ⟨d3, cev⟩
      refine wp_region_held (S := fun w' : World => w'.cell? ⟨bk, 3, none⟩ = some (.slice (some ⟨gs, 0, none⟩) N cs) ∧ w'.cell? ⟨gs, k * 82 + j, none⟩ = some (.slice ep en ec)) mixed ?_
      refine wpAnyH_take (i := 0) (v := (.pointer (some ⟨bk, 0, none⟩))) rfl (by kernel_rfl) (by kernel_rfl) (by kernel_rfl) (fun _ _ _ h => h) (Or.inl ⟨by rfl, fun wx hx => by go_simp⟩) hT0 ?_
      try dsimp only
      try simp only [Act.put, List.getElem_toArray, List.getElem_cons_succ, List.getElem_cons_zero, List.setIfInBounds_toArray, List.set_cons_zero, List.set_cons_succ]
      refine wpAnyH_take (i := 1) (v := (.pointer (some ⟨bk, 0, none⟩))) rfl (by kernel_rfl) (by kernel_rfl) (by kernel_rfl) (fun _ _ _ h => h) (Or.inl ⟨by rfl, fun wx hx => by go_simp⟩) hT0 ?_
      try dsimp only
      try simp only [Act.put, List.getElem_toArray, List.getElem_cons_succ, List.getElem_cons_zero, List.setIfInBounds_toArray, List.set_cons_zero, List.set_cons_succ]
      refine wpAnyH_take (i := 2) (v := (.pointer (some ⟨bk, 3, none⟩))) rfl (by kernel_rfl) (by kernel_rfl) (by kernel_rfl) (fun _ _ _ h => h) (Or.inl ⟨by rfl, fun wx hx => by go_simp⟩) hT0 ?_
      try dsimp only
      try simp only [Act.put, List.getElem_toArray, List.getElem_cons_succ, List.getElem_cons_zero, List.setIfInBounds_toArray, List.set_cons_zero, List.set_cons_succ]
      refine wpAnyH_take (i := 3) (v := (.slice (some ⟨gs, 0, none⟩) N cs)) rfl (by kernel_rfl) (by kernel_rfl) (by kernel_rfl) (fun _ _ _ h => h) (Or.inl ⟨by rfl, fun wx hx => by have hx1 := hx.1; go_simp⟩) hT0 ?_
      try dsimp only
      try simp only [Act.put, List.getElem_toArray, List.getElem_cons_succ, List.getElem_cons_zero, List.setIfInBounds_toArray, List.set_cons_zero, List.set_cons_succ]
      refine wpAnyH_take (i := 4) (v := (.int .i64 k)) rfl (by kernel_rfl) (by kernel_rfl) (by kernel_rfl) (fun _ _ _ h => h) (Or.inl ⟨by rfl, fun wx hx => by go_simp⟩) hT0 ?_
      try dsimp only
      try simp only [Act.put, List.getElem_toArray, List.getElem_cons_succ, List.getElem_cons_zero, List.setIfInBounds_toArray, List.set_cons_zero, List.set_cons_succ]
      refine wpAnyH_take (i := 5) (v := (.int .i64 j)) rfl (by kernel_rfl) (by kernel_rfl) (by kernel_rfl) (fun _ _ _ h => h) (Or.inl ⟨by rfl, fun wx hx => by go_simp⟩) hT0 ?_
      try dsimp only
      try simp only [Act.put, List.getElem_toArray, List.getElem_cons_succ, List.getElem_cons_zero, List.setIfInBounds_toArray, List.set_cons_zero, List.set_cons_succ]
      refine wpAnyH_take (i := 6) (v := (.pointer (some ⟨bk, 0, none⟩))) rfl (by kernel_rfl) (by kernel_rfl) (by kernel_rfl) (fun _ _ _ h => h) (Or.inl ⟨by rfl, fun wx hx => by go_simp⟩) hT0 ?_
      try dsimp only
      try simp only [Act.put, List.getElem_toArray, List.getElem_cons_succ, List.getElem_cons_zero, List.setIfInBounds_toArray, List.set_cons_zero, List.set_cons_succ]
      refine wpAnyH_take (i := 7) (v := (.pointer (some ⟨bk, 0, none⟩))) rfl (by kernel_rfl) (by kernel_rfl) (by kernel_rfl) (fun _ _ _ h => h) (Or.inl ⟨by rfl, fun wx hx => by go_simp⟩) hT0 ?_
      try dsimp only
      try simp only [Act.put, List.getElem_toArray, List.getElem_cons_succ, List.getElem_cons_zero, List.setIfInBounds_toArray, List.set_cons_zero, List.set_cons_succ]
      refine wpAnyH_take (i := 8) (v := (.pointer (some ⟨bk, 3, none⟩))) rfl (by kernel_rfl) (by kernel_rfl) (by kernel_rfl) (fun _ _ _ h => h) (Or.inl ⟨by rfl, fun wx hx => by go_simp⟩) hT0 ?_
      try dsimp only
      try simp only [Act.put, List.getElem_toArray, List.getElem_cons_succ, List.getElem_cons_zero, List.setIfInBounds_toArray, List.set_cons_zero, List.set_cons_succ]
      refine wpAnyH_take (i := 9) (v := (.slice (some ⟨gs, 0, none⟩) N cs)) rfl (by kernel_rfl) (by kernel_rfl) (by kernel_rfl) (fun _ _ _ h => h) (Or.inl ⟨by rfl, fun wx hx => by have hx1 := hx.1; go_simp⟩) hT0 ?_
      try dsimp only
      try simp only [Act.put, List.getElem_toArray, List.getElem_cons_succ, List.getElem_cons_zero, List.setIfInBounds_toArray, List.set_cons_zero, List.set_cons_succ]
      refine wpAnyH_take (i := 10) (v := (.int .i64 k)) rfl (by kernel_rfl) (by kernel_rfl) (by kernel_rfl) (fun _ _ _ h => h) (Or.inl ⟨by rfl, fun wx hx => by go_simp⟩) hT0 ?_
      try dsimp only
      try simp only [Act.put, List.getElem_toArray, List.getElem_cons_succ, List.getElem_cons_zero, List.setIfInBounds_toArray, List.set_cons_zero, List.set_cons_succ]
      refine wpAnyH_take (i := 11) (v := (.int .i64 j)) rfl (by kernel_rfl) (by kernel_rfl) (by kernel_rfl) (fun _ _ _ h => h) (Or.inl ⟨by rfl, fun wx hx => by go_simp⟩) hT0 ?_
      try dsimp only
      try simp only [Act.put, List.getElem_toArray, List.getElem_cons_succ, List.getElem_cons_zero, List.setIfInBounds_toArray, List.set_cons_zero, List.set_cons_succ]
      refine wpAnyH_take (i := 12) (v := (.pointer (some ⟨gs, k * 82, none⟩))) rfl (by kernel_rfl) (by kernel_rfl) (by kernel_rfl) (fun _ _ _ h => h) (Or.inl ⟨by rfl, fun wx hx => by go_simp⟩) hT0 ?_
      try dsimp only
      try simp only [Act.put, List.getElem_toArray, List.getElem_cons_succ, List.getElem_cons_zero, List.setIfInBounds_toArray, List.set_cons_zero, List.set_cons_succ]
      refine wpAnyH_take (i := 13) (v := (.pointer (some ⟨gs, k * 82, none⟩))) rfl (by kernel_rfl) (by kernel_rfl) (by kernel_rfl) (fun _ _ _ h => h) (Or.inl ⟨by rfl, fun wx hx => by go_simp⟩) hT0 ?_
      try dsimp only
      try simp only [Act.put, List.getElem_toArray, List.getElem_cons_succ, List.getElem_cons_zero, List.setIfInBounds_toArray, List.set_cons_zero, List.set_cons_succ]
      refine wpAnyH_take (i := 14) (v := (.pointer (some ⟨gs, k * 82 + j, none⟩))) rfl (by kernel_rfl) (by kernel_rfl) (by kernel_rfl) (fun _ _ _ h => h) (Or.inl ⟨by rfl, fun wx hx => by go_simp⟩) hT0 ?_
      try dsimp only
      try simp only [Act.put, List.getElem_toArray, List.getElem_cons_succ, List.getElem_cons_zero, List.setIfInBounds_toArray, List.set_cons_zero, List.set_cons_succ]
      refine wpAnyH_take (i := 15) (v := (.slice ep en ec)) rfl (by kernel_rfl) (by kernel_rfl) (by kernel_rfl) (fun _ _ _ h => h) (Or.inl ⟨by rfl, fun wx hx => by have hx1 := hx.2; go_simp⟩) hT0 ?_
      try dsimp only
      try simp only [Act.put, List.getElem_toArray, List.getElem_cons_succ, List.getElem_cons_zero, List.setIfInBounds_toArray, List.set_cons_zero, List.set_cons_succ]
      refine wpAnyH_take (i := 16) (v := (.int .i64 en)) rfl (by kernel_rfl) (by kernel_rfl) (by kernel_rfl) (fun _ _ _ h => h) (Or.inl ⟨by rfl, fun wx hx => by go_simp⟩) hT0 ?_
      try dsimp only
      try simp only [Act.put, List.getElem_toArray, List.getElem_cons_succ, List.getElem_cons_zero, List.setIfInBounds_toArray, List.set_cons_zero, List.set_cons_succ]
      refine wpAnyH_take (i := 17) (v := (.pointer (some ⟨gs, k * 82, none⟩))) rfl (by kernel_rfl) (by kernel_rfl) (by kernel_rfl) (fun _ _ _ h => h) (Or.inl ⟨by rfl, fun wx hx => by go_simp⟩) hT0 ?_
      try dsimp only
      try simp only [Act.put, List.getElem_toArray, List.getElem_cons_succ, List.getElem_cons_zero, List.setIfInBounds_toArray, List.set_cons_zero, List.set_cons_succ]
      refine wpAnyH_take (i := 18) (v := (.pointer (some ⟨gs, k * 82 + 20, none⟩))) rfl (by kernel_rfl) (by kernel_rfl) (by kernel_rfl) (fun _ _ _ h => h) (Or.inl ⟨by rfl, fun wx hx => by go_simp⟩) hT0 ?_
      try dsimp only
      try simp only [Act.put, List.getElem_toArray, List.getElem_cons_succ, List.getElem_cons_zero, List.setIfInBounds_toArray, List.set_cons_zero, List.set_cons_succ]
      refine wpAnyH_take (i := 19) (v := (.pointer (some ⟨gs, k * 82 + 20 + j, none⟩))) rfl (by kernel_rfl) (by kernel_rfl) (by kernel_rfl) (fun _ _ _ h => h) (Or.inl ⟨by rfl, fun wx hx => by go_simp⟩) hT0 ?_
      try dsimp only
      try simp only [Act.put, List.getElem_toArray, List.getElem_cons_succ, List.getElem_cons_zero, List.setIfInBounds_toArray, List.set_cons_zero, List.set_cons_succ]
      refine wpAnyH_all (rs := [20]) (by kernel_rfl) (by simp) ?_
      intro jj hjj
      simp only [List.mem_cons, List.not_mem_nil, or_false] at hjj
      subst hjj
      have hT3 : (fun w' : World => w'.cell? ⟨bk, 3, none⟩ = some (.slice (some ⟨gs, 0, none⟩) N cs) ∧ w'.cell? ⟨gs, k * 82 + j, none⟩ = some (.slice ep en ec)) (wr.drew.setCell ⟨gs, k * 82 + 20 + j, none⟩ (.int .i64 en)) := ⟨cell_set hbg hT0.1, cell_set_off (by omega) hT0.2⟩
      refine wpOp_of_wp rfl rfl (hideK ?_)
      intro K' hK'
      go_simp
      rw [hK'.out]
      refine ⟨hT3, ?_⟩
      try dsimp only
      try simp only [Act.put, List.getElem_toArray, List.getElem_cons_succ, List.getElem_cons_zero, List.setIfInBounds_toArray, List.set_cons_zero, List.set_cons_succ]
      refine wpAnyH_done (by kernel_rfl) ?_ _
      have HZ : Hid (KB w (wr.drew.setCell ⟨gs, k * 82 + 20 + j, none⟩ (.int .i64 en)) own B0 gs N cs (C.set k (cKep c ll (j + 1)))) := HNX'.out.below (w' := wr.drew.setCell ⟨gs, k * 82 + 20 + j, none⟩ (.int .i64 en)) ⟨rfl, rfl, rfl, Nat.le_refl _, fun _ _ => rfl⟩
      clear hT0 hT3 cev ck fb d3 HNX'
      go_wp2
      go_roundw
      case rel => exact ⟨j + 1, by omega, by go_num, HZ.out⟩
      case measure => simp [intOf]; omega
    · obtain rfl : j = 20 := by omega
      go_upto_region 5 with fail
      have hrg : wr.rangeAt gs (k * 82 + 40) (boolL c.cl) := HKB.out.range k _ hkC 40 (by omega) c.cl (fun v hv => by rw [SrcC.at_cl _ v hv]; rfl)
      obtain ⟨cur, hcur, hfit, hkb2⟩ := HKB.out.setB tgs k _ { cKep c ll 20 with sh := c.cl } hkC 60 (by omega) c.cl (fun v hv => by rw [SrcC.at_sh _ v hv]) (fun i hi ho => SrcC.at_out _ _ i hi rfl rfl (.inr (.inr rfl)) (by rcases ho with h | h; (exact .inl h); exact .inr (.inl (by omega))) (.inr rfl) (.inr rfl))
      rw [List.set_set] at hkb2
      have hT0 : (fun w' : World => w'.cell? ⟨bk, 3, none⟩ = some (.slice (some ⟨gs, 0, none⟩) N cs) ∧ w'.rangeAt gs (k * 82 + 40) (boolL c.cl)) wr.drew := ⟨d3, hrg⟩
      refine wp_region_held (S := fun w' : World => w'.cell? ⟨bk, 3, none⟩ = some (.slice (some ⟨gs, 0, none⟩) N cs) ∧ w'.rangeAt gs (k * 82 + 40) (boolL c.cl)) mixed ?_
      refine wpAnyH_take (i := 0) (v := (.pointer (some ⟨bk, 0, none⟩))) rfl (by kernel_rfl) (by kernel_rfl) (by kernel_rfl) (fun _ _ _ h => h) (Or.inl ⟨by rfl, fun wx hx => by go_simp⟩) hT0 ?_
      try dsimp only
      try simp only [Act.put, List.getElem_toArray, List.getElem_cons_succ, List.getElem_cons_zero, List.setIfInBounds_toArray, List.set_cons_zero, List.set_cons_succ]
      refine wpAnyH_take (i := 1) (v := (.pointer (some ⟨bk, 0, none⟩))) rfl (by kernel_rfl) (by kernel_rfl) (by kernel_rfl) (fun _ _ _ h => h) (Or.inl ⟨by rfl, fun wx hx => by go_simp⟩) hT0 ?_
      try dsimp only
      try simp only [Act.put, List.getElem_toArray, List.getElem_cons_succ, List.getElem_cons_zero, List.setIfInBounds_toArray, List.set_cons_zero, List.set_cons_succ]
      refine wpAnyH_take (i := 2) (v := (.pointer (some ⟨bk, 3, none⟩))) rfl (by kernel_rfl) (by kernel_rfl) (by kernel_rfl) (fun _ _ _ h => h) (Or.inl ⟨by rfl, fun wx hx => by go_simp⟩) hT0 ?_
      try dsimp only
      try simp only [Act.put, List.getElem_toArray, List.getElem_cons_succ, List.getElem_cons_zero, List.setIfInBounds_toArray, List.set_cons_zero, List.set_cons_succ]
      refine wpAnyH_take (i := 3) (v := (.slice (some ⟨gs, 0, none⟩) N cs)) rfl (by kernel_rfl) (by kernel_rfl) (by kernel_rfl) (fun _ _ _ h => h) (Or.inl ⟨by rfl, fun wx hx => by have hx1 := hx.1; go_simp⟩) hT0 ?_
      try dsimp only
      try simp only [Act.put, List.getElem_toArray, List.getElem_cons_succ, List.getElem_cons_zero, List.setIfInBounds_toArray, List.set_cons_zero, List.set_cons_succ]
      refine wpAnyH_take (i := 4) (v := (.int .i64 k)) rfl (by kernel_rfl) (by kernel_rfl) (by kernel_rfl) (fun _ _ _ h => h) (Or.inl ⟨by rfl, fun wx hx => by go_simp⟩) hT0 ?_
      try dsimp only
      try simp only [Act.put, List.getElem_toArray, List.getElem_cons_succ, List.getElem_cons_zero, List.setIfInBounds_toArray, List.set_cons_zero, List.set_cons_succ]
      refine wpAnyH_take (i := 5) (v := (.pointer (some ⟨bk, 0, none⟩))) rfl (by kernel_rfl) (by kernel_rfl) (by kernel_rfl) (fun _ _ _ h => h) (Or.inl ⟨by rfl, fun wx hx => by go_simp⟩) hT0 ?_
      try dsimp only
      try simp only [Act.put, List.getElem_toArray, List.getElem_cons_succ, List.getElem_cons_zero, List.setIfInBounds_toArray, List.set_cons_zero, List.set_cons_succ]
      refine wpAnyH_take (i := 6) (v := (.pointer (some ⟨bk, 0, none⟩))) rfl (by kernel_rfl) (by kernel_rfl) (by kernel_rfl) (fun _ _ _ h => h) (Or.inl ⟨by rfl, fun wx hx => by go_simp⟩) hT0 ?_
      try dsimp only
      try simp only [Act.put, List.getElem_toArray, List.getElem_cons_succ, List.getElem_cons_zero, List.setIfInBounds_toArray, List.set_cons_zero, List.set_cons_succ]
      refine wpAnyH_take (i := 7) (v := (.pointer (some ⟨bk, 3, none⟩))) rfl (by kernel_rfl) (by kernel_rfl) (by kernel_rfl) (fun _ _ _ h => h) (Or.inl ⟨by rfl, fun wx hx => by go_simp⟩) hT0 ?_
      try dsimp only
      try simp only [Act.put, List.getElem_toArray, List.getElem_cons_succ, List.getElem_cons_zero, List.setIfInBounds_toArray, List.set_cons_zero, List.set_cons_succ]
      refine wpAnyH_take (i := 8) (v := (.slice (some ⟨gs, 0, none⟩) N cs)) rfl (by kernel_rfl) (by kernel_rfl) (by kernel_rfl) (fun _ _ _ h => h) (Or.inl ⟨by rfl, fun wx hx => by have hx1 := hx.1; go_simp⟩) hT0 ?_
      try dsimp only
      try simp only [Act.put, List.getElem_toArray, List.getElem_cons_succ, List.getElem_cons_zero, List.setIfInBounds_toArray, List.set_cons_zero, List.set_cons_succ]
      refine wpAnyH_take (i := 9) (v := (.int .i64 k)) rfl (by kernel_rfl) (by kernel_rfl) (by kernel_rfl) (fun _ _ _ h => h) (Or.inl ⟨by rfl, fun wx hx => by go_simp⟩) hT0 ?_
      try dsimp only
      try simp only [Act.put, List.getElem_toArray, List.getElem_cons_succ, List.getElem_cons_zero, List.setIfInBounds_toArray, List.set_cons_zero, List.set_cons_succ]
      refine wpAnyH_take (i := 10) (v := (.pointer (some ⟨gs, k * 82, none⟩))) rfl (by kernel_rfl) (by kernel_rfl) (by kernel_rfl) (fun _ _ _ h => h) (Or.inl ⟨by rfl, fun wx hx => by go_simp⟩) hT0 ?_
      try dsimp only
      try simp only [Act.put, List.getElem_toArray, List.getElem_cons_succ, List.getElem_cons_zero, List.setIfInBounds_toArray, List.set_cons_zero, List.set_cons_succ]
      refine wpAnyH_take (i := 11) (v := (.pointer (some ⟨gs, k * 82 + 40, none⟩))) rfl (by kernel_rfl) (by kernel_rfl) (by kernel_rfl) (fun _ _ _ h => h) (Or.inl ⟨by rfl, fun wx hx => by go_simp⟩) hT0 ?_
      try dsimp only
      try simp only [Act.put, List.getElem_toArray, List.getElem_cons_succ, List.getElem_cons_zero, List.setIfInBounds_toArray, List.set_cons_zero, List.set_cons_succ]
      refine wpAnyH_take (i := 12) (v := (.agg (boolL c.cl).toArray)) rfl (by kernel_rfl) (by kernel_rfl) (by kernel_rfl) (fun _ _ _ h => h) (yieldsIf_load_mid (by rfl) _ _ rfl _ _ rfl (boolL c.cl) _ (fun wx hx => hx.2) Try.underlying85 rfl (info_bools c.cl)) hT0 ?_
      try dsimp only
      try simp only [Act.put, List.getElem_toArray, List.getElem_cons_succ, List.getElem_cons_zero, List.setIfInBounds_toArray, List.set_cons_zero, List.set_cons_succ]
      refine wpAnyH_take (i := 13) (v := (.pointer (some ⟨gs, k * 82, none⟩))) rfl (by kernel_rfl) (by kernel_rfl) (by kernel_rfl) (fun _ _ _ h => h) (Or.inl ⟨by rfl, fun wx hx => by go_simp⟩) hT0 ?_
      try dsimp only
      try simp only [Act.put, List.getElem_toArray, List.getElem_cons_succ, List.getElem_cons_zero, List.setIfInBounds_toArray, List.set_cons_zero, List.set_cons_succ]
      refine wpAnyH_take (i := 14) (v := (.pointer (some ⟨gs, k * 82 + 60, none⟩))) rfl (by kernel_rfl) (by kernel_rfl) (by kernel_rfl) (fun _ _ _ h => h) (Or.inl ⟨by rfl, fun wx hx => by go_simp⟩) hT0 ?_
      try dsimp only
      try simp only [Act.put, List.getElem_toArray, List.getElem_cons_succ, List.getElem_cons_zero, List.setIfInBounds_toArray, List.set_cons_zero, List.set_cons_succ]
      refine wpAnyH_all (rs := [15]) (by kernel_rfl) (by simp) ?_
      intro jj hjj
      simp only [List.mem_cons, List.not_mem_nil, or_false] at hjj
      subst hjj
      refine wpOp_of_wp rfl rfl (wp_store_lay 85 _ _ rfl gs (k * 82 + 60) (boolL c.cl).toArray rfl rfl _ cur (by exact hcur) (by have := info_bools c.cl; simpa using this) (by simp [boolL_len]; omega) (boolL_one c.cl) ?_)
      have hkb3 : KB w (wr.drew.setRow gs (lay cur (k * 82 + 60) (boolL c.cl))) own B0 gs N cs (C.set k { cKep c ll 20 with sh := c.cl }) := hkb2.below (w' := wr.drew.setRow gs (lay cur (k * 82 + 60) (boolL c.cl))) ⟨rfl, rfl, rfl, Nat.le_refl _, fun _ _ => rfl⟩
      have hkC2 : (C.set k { cKep c ll 20 with sh := c.cl })[k]? = some { cKep c ll 20 with sh := c.cl } := List.getElem?_set_self (List.getElem?_eq_some_iff.1 HCD.out.1).1
      have hT3 : (fun w' : World => w'.cell? ⟨bk, 3, none⟩ = some (.slice (some ⟨gs, 0, none⟩) N cs) ∧ w'.rangeAt gs (k * 82 + 40) (boolL c.cl)) (wr.drew.setRow gs (lay cur (k * 82 + 60) (boolL c.cl))) := ⟨(HRUN.out _ hkb3.f).1, hkb3.range k _ hkC2 40 (by omega) c.cl (fun v hv => by rw [SrcC.at_cl _ v hv]; rfl)⟩
      refine ⟨(by simpa using hT3), ?_⟩
      try dsimp only
      try simp only [Act.put, List.getElem_toArray, List.getElem_cons_succ, List.getElem_cons_zero, List.setIfInBounds_toArray, List.set_cons_zero, List.set_cons_succ]
      refine wpAnyH_done (by kernel_rfl) ?_ _
      obtain ⟨w3, hw3⟩ : ∃ w3, w3 = wr.drew.setRow gs (lay cur (k * 82 + 60) (boolL c.cl)) := ⟨_, rfl⟩
      have HK3 : Hid (KB w w3 own B0 gs N cs (C.set k { cKep c ll 20 with sh := c.cl })) := by unfold Hid; rw [hw3]; exact hkb3
      obtain ⟨f3, f0⟩ := HRUN.out w3 HK3.out.f
      show Exit.then _ _ Exit.normal _ (wr.drew.setRow gs (lay cur (k * 82 + 60) (boolL c.cl)))
      rw [← hw3]
      clear hT0 hT3 hw3 hkb2 hkb3 hrg hcur hfit d3 d0 HKB hkC
      have hkC3 : (C.set k { cKep c ll 20 with sh := c.cl })[k]? = some { cKep c ll 20 with sh := c.cl } := hkC2
      clear hkC2
      go_upto_region 6 with fail
      have cm : w3.cell? ⟨gs, k * 82 + 80, none⟩ = some (.int .i64 c.mark) := HK3.out.o.cell_at k _ hkC3 80 _ (by show (SrcC.cells _)[80]? = _; rw [SrcC.get _ _ (by omega), SrcC.at_mark]; rfl)
      have cd : ∃ u, w3.cell? ⟨gs, k * 82 + 81, none⟩ = some u := ⟨_, HK3.out.o.cell_at k _ hkC3 81 _ (by show (SrcC.cells _)[81]? = _; rw [SrcC.get _ _ (by omega)])⟩
      obtain ⟨u, cd⟩ := cd
      have fd : w3.frozen? ⟨gs, k * 82 + 81, none⟩ = false := by obtain ⟨cur, hcur⟩ := HK3.out.o.blk; exact frozen_of_row _ _ _ _ _ hcur
      have hkb4 := HK3.out.set tgs k _ { cKep c ll 20 with sh := c.cl, saved := c.mark } hkC3 81 (by omega) (.int .i64 c.mark) (by rw [SrcC.at_saved]) (fun i hi ho => SrcC.at_out _ _ i hi rfl rfl (.inr (.inr rfl)) (.inr (.inr rfl)) (.inr rfl) (.inl ho))
      rw [List.set_set] at hkb4
      have hT0 : (fun w' : World => w'.cell? ⟨bk, 3, none⟩ = some (.slice (some ⟨gs, 0, none⟩) N cs) ∧ w'.cell? ⟨gs, k * 82 + 80, none⟩ = some (.int .i64 c.mark)) w3.drew := ⟨f3, cm⟩
      refine wp_region_held (S := fun w' : World => w'.cell? ⟨bk, 3, none⟩ = some (.slice (some ⟨gs, 0, none⟩) N cs) ∧ w'.cell? ⟨gs, k * 82 + 80, none⟩ = some (.int .i64 c.mark)) mixed ?_
      refine wpAnyH_take (i := 0) (v := (.pointer (some ⟨bk, 0, none⟩))) rfl (by kernel_rfl) (by kernel_rfl) (by kernel_rfl) (fun _ _ _ h => h) (Or.inl ⟨by rfl, fun wx hx => by go_simp⟩) hT0 ?_
      try dsimp only
      try simp only [Act.put, List.getElem_toArray, List.getElem_cons_succ, List.getElem_cons_zero, List.setIfInBounds_toArray, List.set_cons_zero, List.set_cons_succ]
      refine wpAnyH_take (i := 1) (v := (.pointer (some ⟨bk, 0, none⟩))) rfl (by kernel_rfl) (by kernel_rfl) (by kernel_rfl) (fun _ _ _ h => h) (Or.inl ⟨by rfl, fun wx hx => by go_simp⟩) hT0 ?_
      try dsimp only
      try simp only [Act.put, List.getElem_toArray, List.getElem_cons_succ, List.getElem_cons_zero, List.setIfInBounds_toArray, List.set_cons_zero, List.set_cons_succ]
      refine wpAnyH_take (i := 2) (v := (.pointer (some ⟨bk, 3, none⟩))) rfl (by kernel_rfl) (by kernel_rfl) (by kernel_rfl) (fun _ _ _ h => h) (Or.inl ⟨by rfl, fun wx hx => by go_simp⟩) hT0 ?_
      try dsimp only
      try simp only [Act.put, List.getElem_toArray, List.getElem_cons_succ, List.getElem_cons_zero, List.setIfInBounds_toArray, List.set_cons_zero, List.set_cons_succ]
      refine wpAnyH_take (i := 3) (v := (.slice (some ⟨gs, 0, none⟩) N cs)) rfl (by kernel_rfl) (by kernel_rfl) (by kernel_rfl) (fun _ _ _ h => h) (Or.inl ⟨by rfl, fun wx hx => by have hx1 := hx.1; go_simp⟩) hT0 ?_
      try dsimp only
      try simp only [Act.put, List.getElem_toArray, List.getElem_cons_succ, List.getElem_cons_zero, List.setIfInBounds_toArray, List.set_cons_zero, List.set_cons_succ]
      refine wpAnyH_take (i := 4) (v := (.int .i64 k)) rfl (by kernel_rfl) (by kernel_rfl) (by kernel_rfl) (fun _ _ _ h => h) (Or.inl ⟨by rfl, fun wx hx => by go_simp⟩) hT0 ?_
      try dsimp only
      try simp only [Act.put, List.getElem_toArray, List.getElem_cons_succ, List.getElem_cons_zero, List.setIfInBounds_toArray, List.set_cons_zero, List.set_cons_succ]
      refine wpAnyH_take (i := 5) (v := (.pointer (some ⟨bk, 0, none⟩))) rfl (by kernel_rfl) (by kernel_rfl) (by kernel_rfl) (fun _ _ _ h => h) (Or.inl ⟨by rfl, fun wx hx => by go_simp⟩) hT0 ?_
      try dsimp only
      try simp only [Act.put, List.getElem_toArray, List.getElem_cons_succ, List.getElem_cons_zero, List.setIfInBounds_toArray, List.set_cons_zero, List.set_cons_succ]
      refine wpAnyH_take (i := 6) (v := (.pointer (some ⟨bk, 0, none⟩))) rfl (by kernel_rfl) (by kernel_rfl) (by kernel_rfl) (fun _ _ _ h => h) (Or.inl ⟨by rfl, fun wx hx => by go_simp⟩) hT0 ?_
      try dsimp only
      try simp only [Act.put, List.getElem_toArray, List.getElem_cons_succ, List.getElem_cons_zero, List.setIfInBounds_toArray, List.set_cons_zero, List.set_cons_succ]
      refine wpAnyH_take (i := 7) (v := (.pointer (some ⟨bk, 3, none⟩))) rfl (by kernel_rfl) (by kernel_rfl) (by kernel_rfl) (fun _ _ _ h => h) (Or.inl ⟨by rfl, fun wx hx => by go_simp⟩) hT0 ?_
      try dsimp only
      try simp only [Act.put, List.getElem_toArray, List.getElem_cons_succ, List.getElem_cons_zero, List.setIfInBounds_toArray, List.set_cons_zero, List.set_cons_succ]
      refine wpAnyH_take (i := 8) (v := (.slice (some ⟨gs, 0, none⟩) N cs)) rfl (by kernel_rfl) (by kernel_rfl) (by kernel_rfl) (fun _ _ _ h => h) (Or.inl ⟨by rfl, fun wx hx => by have hx1 := hx.1; go_simp⟩) hT0 ?_
      try dsimp only
      try simp only [Act.put, List.getElem_toArray, List.getElem_cons_succ, List.getElem_cons_zero, List.setIfInBounds_toArray, List.set_cons_zero, List.set_cons_succ]
      refine wpAnyH_take (i := 9) (v := (.int .i64 k)) rfl (by kernel_rfl) (by kernel_rfl) (by kernel_rfl) (fun _ _ _ h => h) (Or.inl ⟨by rfl, fun wx hx => by go_simp⟩) hT0 ?_
      try dsimp only
      try simp only [Act.put, List.getElem_toArray, List.getElem_cons_succ, List.getElem_cons_zero, List.setIfInBounds_toArray, List.set_cons_zero, List.set_cons_succ]
      refine wpAnyH_take (i := 10) (v := (.pointer (some ⟨gs, k * 82, none⟩))) rfl (by kernel_rfl) (by kernel_rfl) (by kernel_rfl) (fun _ _ _ h => h) (Or.inl ⟨by rfl, fun wx hx => by go_simp⟩) hT0 ?_
      try dsimp only
      try simp only [Act.put, List.getElem_toArray, List.getElem_cons_succ, List.getElem_cons_zero, List.setIfInBounds_toArray, List.set_cons_zero, List.set_cons_succ]
      refine wpAnyH_take (i := 11) (v := (.pointer (some ⟨gs, k * 82 + 80, none⟩))) rfl (by kernel_rfl) (by kernel_rfl) (by kernel_rfl) (fun _ _ _ h => h) (Or.inl ⟨by rfl, fun wx hx => by go_simp⟩) hT0 ?_
      try dsimp only
      try simp only [Act.put, List.getElem_toArray, List.getElem_cons_succ, List.getElem_cons_zero, List.setIfInBounds_toArray, List.set_cons_zero, List.set_cons_succ]
      refine wpAnyH_take (i := 12) (v := (.int .i64 c.mark)) rfl (by kernel_rfl) (by kernel_rfl) (by kernel_rfl) (fun _ _ _ h => h) (Or.inl ⟨by rfl, fun wx hx => by have hx1 := hx.2; go_simp⟩) hT0 ?_
      try dsimp only
      try simp only [Act.put, List.getElem_toArray, List.getElem_cons_succ, List.getElem_cons_zero, List.setIfInBounds_toArray, List.set_cons_zero, List.set_cons_succ]
      refine wpAnyH_take (i := 13) (v := (.pointer (some ⟨gs, k * 82, none⟩))) rfl (by kernel_rfl) (by kernel_rfl) (by kernel_rfl) (fun _ _ _ h => h) (Or.inl ⟨by rfl, fun wx hx => by go_simp⟩) hT0 ?_
      try dsimp only
      try simp only [Act.put, List.getElem_toArray, List.getElem_cons_succ, List.getElem_cons_zero, List.setIfInBounds_toArray, List.set_cons_zero, List.set_cons_succ]
      refine wpAnyH_take (i := 14) (v := (.pointer (some ⟨gs, k * 82 + 81, none⟩))) rfl (by kernel_rfl) (by kernel_rfl) (by kernel_rfl) (fun _ _ _ h => h) (Or.inl ⟨by rfl, fun wx hx => by go_simp⟩) hT0 ?_
      try dsimp only
      try simp only [Act.put, List.getElem_toArray, List.getElem_cons_succ, List.getElem_cons_zero, List.setIfInBounds_toArray, List.set_cons_zero, List.set_cons_succ]
      refine wpAnyH_all (rs := [15]) (by kernel_rfl) (by simp) ?_
      intro jj hjj
      simp only [List.mem_cons, List.not_mem_nil, or_false] at hjj
      subst hjj
      have hT3 : (fun w' : World => w'.cell? ⟨bk, 3, none⟩ = some (.slice (some ⟨gs, 0, none⟩) N cs) ∧ w'.cell? ⟨gs, k * 82 + 80, none⟩ = some (.int .i64 c.mark)) (w3.drew.setCell ⟨gs, k * 82 + 81, none⟩ (.int .i64 c.mark)) := ⟨cell_set hbg hT0.1, cell_set_off (by omega) hT0.2⟩
      refine wpOp_of_wp rfl rfl (hideK ?_)
      intro K' hK'
      go_simp
      rw [hK'.out]
      refine ⟨hT3, ?_⟩
      try dsimp only
      try simp only [Act.put, List.getElem_toArray, List.getElem_cons_succ, List.getElem_cons_zero, List.setIfInBounds_toArray, List.set_cons_zero, List.set_cons_succ]
      refine wpAnyH_done (by kernel_rfl) ?_ _
      obtain ⟨w5, hw5⟩ : ∃ w5, w5 = w3.drew.setCell ⟨gs, k * 82 + 81, none⟩ (.int .i64 c.mark) := ⟨_, rfl⟩
      have HK5 : Hid (KB w w5 own B0 gs N cs (C.set k { cKep c ll 20 with sh := c.cl, saved := c.mark })) := by unfold Hid; rw [hw5]; exact hkb4.below (w' := w3.drew.setCell ⟨gs, k * 82 + 81, none⟩ (.int .i64 c.mark)) ⟨rfl, rfl, rfl, Nat.le_refl _, fun _ _ => rfl⟩
      have f50 := (HRUN.out w5 HK5.out.f).2
      show Exit.then _ _ Exit.normal _ (w3.drew.setCell ⟨gs, k * 82 + 81, none⟩ (.int .i64 c.mark))
      rw [← hw5]
      clear hT0 hT3 hw5 hkb4 cm cd fd f3 f0 HK3 hkC3
      go_wp2_with (go_at_call 30; refine (HQ.out.sync w5 own B0 bs t wid D (HR.out.chg HG.out.st HK5.out.f (Same.refl _ _) (fun i => by simp)) (HG.out.di.mono' (by omega)) (Nat.le_trans HG.out.b0 HK5.out.f.size) k ⟨by omega, by omega⟩).mono ?_; rintro e w6 ⟨rfl, own6, hst, hsm, hfr⟩; rw [HE.out]; rw [HD.out] at hst; have HZ : Hid (SR w6 own6 B0 bs t wid (D.set k { d with kev := d.lev, kcl := d.lcl, kmk := d.lmk, saved := d.items }) ∧ Same w5 own own6 ∧ Fr own isSt w5 w6) := ⟨hst, hsm, hfr⟩; clear hst hsm hfr)
      go_ret
      have hdi := HG.out.di k d HCD.out.2
      refine ⟨rfl, KN.tt HD.out <| HG.out.fin k c { cKep c ll 20 with sh := c.cl, saved := c.mark } d { d with kev := d.lev, kcl := d.lcl, kmk := d.lmk, saved := d.items } HCD.out.1 HCD.out.2 (by rw [HN.out]; exact HK5.out) HZ.out.1 HZ.out.2.1 HZ.out.2.2 (fun v _ => rfl) (fun v _ => rfl) (fun v hv => ?_) HRP.out.1.cl HRP.out.1.cl HRP.out.1.mark HRP.out.1.mark HI.out ⟨hdi.1, hdi.1, hdi.2.2.1, hdi.2.2.1⟩ ⟨HRP.out.2.lev, HRP.out.2.lev, HRP.out.2.lm0, HRP.out.2.lm1, HRP.out.2.lm0, HRP.out.2.lm1⟩⟩
      show (if v < 20 then ll v else c.kept v) = _
      rw [if_pos hv]; exact HLL.out v
end Go.Proofs.Ytpglbakcjihohab
