/-
  Own texts, laid together: A run's node crashes. The program's Deliver once more, for a packet whose items lie anywhere but in the store; the contract of it. A run's node sends; a packet comes. A packet comes to the node above.
-/
import Derived.Test.YtpglbakcjihohabRows
import Derived.Test.YtpglbakcjihohabPart6
set_option linter.unusedSimpArgs false
set_option linter.unusedVariables false
set_option linter.deprecated false
/-! A run's node crashes. -/
namespace Go.Proofs.Ytpglbakcjihohab
open Go.RowKit
set_option maxRecDepth 100000

theorem KD.fin' {SR : SRT} {w wr w2 : World} {own own1 own2 : Ghost} {B0 bk bs : Nat} {t : List Int} {wid : Int} {m : Nat} {D : List Nd} {vt vl : Sl} {gs cs : Nat} {C : List SrcC} {PK : List Pk} {A : List (Int × List It)} (g : KD SR w own B0 bk bs t wid m D vt ⟨some ⟨gs, 0, none⟩, t.length, cs⟩ vl C PK A)
    (k : Nat) (c c' : SrcC) (d d' : Nd) (hc : C[k]? = some c) (hd : D[k]? = some d) (kb : KB w wr own B0 gs t.length cs (C.set k c')) (sm0 : Same w own own1) (hst : SR w2 own2 B0 bs t wid (D.set k d')) (sm : Same wr own1 own2) (fr : Fr own1 isSt wr w2)
    (hE : ∀ v : Nat, v < 20 → Own clE wr B0 110 (c'.ev v).val ((evK d'.lev v).map evOf)) (hT : ∀ v : Nat, v < 20 → TgV own1 (c'.ev v).val (.wd (2 + 20 * k + v))) (h1 : ∀ v : Nat, v < 20 → c'.kept v = ((evK d'.kev v).length : Int)) (h2 : ∀ v : Nat, v < 20 → c'.cl v = d'.lcl v) (h3 : ∀ v : Nat, v < 20 → c'.sh v = d'.kcl v) (h4 : c'.mark = d'.lmk) (h5 : c'.saved = d'.kmk)
    (hinv : Inv t (D.set k d') A) (hdi : d'.lev.length ≤ m ∧ d'.kev.length ≤ m ∧ Good d'.items ∧ Good d'.saved) (hnb : NdB wid d') : KN SR B0 bk bs t wid m (D.set k d') A w own w2 := by
  have tgs : own gs = .wd 1 := g.ts gs rfl
  have hgs : gs < w.heap.size := (g.so.lt gs rfl).2
  have sz := kb.f.size
  have sm1 : Same w own own2 := fun j hj hf => by rw [sm j (by omega) (by rw [sm0 j hj hf]; exact hf), sm0 j hj hf]
  have f1 : Fr own isKs w w2 := (kb.f.mono (S' := isKs) fun _ e => by rw [e]; exact isKs_wd 1 (by decide)).trans sm0 (fr_st fr)
  have old : ∀ j, j < w.heap.size → ∀ i, own j = .wd i → i ≠ 1 → w2.heap[j]? = w.heap[j]? := fun j hj i e hi => by
    have e1 : own1 j = .wd i := by rw [sm0 j hj (by rw [e]; simp)]; exact e
    rw [fr.block j (by omega) (by rw [e1]; simp) (by rw [e1]; rintro ⟨i', e'⟩; simp at e'), kb.f.block j hj (by rw [e]; simp) (by rw [e]; simp; exact hi)]
  have tg1 : own1 gs = .wd 1 := by rw [sm0 gs hgs (by rw [tgs]; simp)]; exact tgs
  have ho : Own clSrc w2 B0 87 (.slice (some ⟨gs, 0, none⟩) t.length cs) (C.set k c') := kb.o.fr fr (t := .wd 1) (fun j hj => by obtain rfl : gs = j := Option.some.inj hj; exact tg1) (by simp) (by rintro ⟨i', e'⟩; simp at e')
  refine ⟨own2, ⟨_, _, _, _, _, g.re (m' := m) f1 sm1 hst ho (by simp) (fun j cj dj hcj hdj => ?_) hinv (fun j dj hj => ?_) (fun j dj hj => ?_) (Nat.le_refl _)⟩, sm1, f1.mono fun t ht => by rcases ht with ⟨i, rfl⟩ | ⟨i, rfl, _⟩ <;> simp [notA]⟩
  · by_cases ej : k = j
    · subst ej
      rw [List.getElem?_set_self (List.getElem?_eq_some_iff.1 hd).1] at hdj; cases hdj
      rw [List.getElem?_set_self (List.getElem?_eq_some_iff.1 hc).1] at hcj; cases hcj
      exact ⟨fun v hv => (hE v hv).fr fr (hT v hv) (by simp) (by rintro ⟨i', e'⟩; simp at e'), fun v hv => (hT v hv).own sm (hE v hv) (by simp), h1, h2, h3, h4, h5⟩
    · rw [List.getElem?_set_ne ej] at hdj hcj
      have rj := g.rep j cj dj hcj hdj
      exact ⟨fun v hv => (rj.ev v hv).chg fun i hi => old i ((rj.ev v hv).lt i hi).2 _ (rj.te v hv i hi) (by omega), fun v hv => (rj.te v hv).own sm1 (rj.ev v hv) (by simp), rj.kept, rj.cl, rj.sh, rj.mark, rj.saved⟩
  · rcases set_some hj with ⟨rfl, rfl⟩ | ⟨_, hj⟩
    · exact hdi
    · exact g.di j dj hj
  · rcases set_some hj with ⟨rfl, rfl⟩ | ⟨_, hj⟩
    · exact hnb
    · exact g.nb j dj hj
/-- Behind j of the windows. -/
structure KC (w wr : World) (own : Ghost) (B0 gs N cs k : Nat) (C : List SrcC) (c : SrcC) (d : Nd) (j : Nat) (E : Nat → Sl) (own1 : Ghost) : Prop where
  kb : KB w wr own B0 gs N cs (C.set k { c with ev := E })
  sm : Same w own own1
  ev : ∀ v : Nat, v < 20 → Own clE wr B0 110 (E v).val ((evK (if v < j then d.kev else d.lev) v).map evOf)
  te : ∀ v : Nat, v < 20 → TgV own1 (E v).val (.wd (2 + 20 * k + v))
theorem KC.next {w wr w3 : World} {own : Ghost} {B0 gs N cs k : Nat} {C : List SrcC} {c : SrcC} {d : Nd} {j : Nat} {E : Nat → Sl} {own1 : Ghost} (h : KC w wr own B0 gs N cs k C c d j E own1) (tgs : own gs = .wd 1) (hgs : gs < w.heap.size) (hc : C[k]? = some c) (hj : j < 20) (hb : Below wr.heap.size wr w3) (s : Sl) (o3 : Own clE w3 B0 110 s.val ((evK d.kev j).map evOf)) (t3 : ∀ i, s.val.ownBlock = some i → wr.heap.size ≤ i) :
    ∃ E' own1', KC w (w3.setCell ⟨gs, k * 82 + j, none⟩ s.val) own B0 gs N cs k C c d (j + 1) E' own1' := by
  have hkC : (C.set k { c with ev := E })[k]? = some { c with ev := E } := List.getElem?_set_self (List.getElem?_eq_some_iff.1 hc).1
  have sz := h.kb.f.size
  have tg1 : own1 gs = .wd 1 := by rw [h.sm gs hgs (by rw [tgs]; simp)]; exact tgs
  have kb3 := (h.kb.below hb).set tgs k _ { c with ev := fun v => if v = j then s else E v } hkC j (by omega) s.val (by rw [SrcC.at_ev _ j hj]; simp [Sl.val]) (fun i hi hne => by
    unfold SrcC.at
    by_cases hi20 : i < 20
    · rw [if_pos hi20, if_pos hi20]; simp only [if_neg hne]
    · rw [if_neg hi20, if_neg hi20])
  rw [List.set_set] at kb3
  have ngs : s.val.ownBlock ≠ some gs := fun e => by have := t3 gs e; omega
  refine ⟨fun v => if v = j then s else E v, fun i => if s.val.ownBlock = some i then .wd (2 + 20 * k + j) else own1 i, kb3, fun i hi hf => ?_, fun v hv => ?_, fun v hv => ?_⟩
  · rw [if_neg (fun e => by have := t3 i e; omega)]; exact h.sm i hi hf
  · by_cases e : v = j
    · subst e
      simp only [if_true]
      rw [if_pos (by omega)]
      exact o3.chg fun i hi => heap_setCell_other _ _ _ _ (by show i ≠ gs; intro e'; exact ngs (by rw [hi, e']))
    · simp only [if_neg e]
      have e2 : (if v < j + 1 then d.kev else d.lev) = (if v < j then d.kev else d.lev) := by
        by_cases h1 : v < j
        · rw [if_pos h1, if_pos (by omega)]
        · rw [if_neg h1, if_neg (by omega)]
      rw [e2]
      refine ((h.ev v hv).below hb).chg fun i hi => heap_setCell_other _ _ _ _ (by show i ≠ gs; intro e'; have := h.te v hv i hi; rw [e', tg1] at this; simp at this; omega)
  · by_cases e : v = j
    · subst e; simp only [if_true]; exact fun i hi => if_pos hi
    · simp only [if_neg e]
      intro i hi
      have := ((h.ev v hv).lt i hi).2
      show (if s.val.ownBlock = some i then Tag.wd (2 + 20 * k + j) else own1 i) = _
      rw [if_neg (fun e' => by have := t3 i e'; omega)]
      exact h.te v hv i hi
theorem evK_kept {d : Nd} (hp : ∃ r, d.lev = d.kev ++ r) (v : Int) : (evK d.lev v).take (evK d.kev v).length = evK d.kev v := by
  obtain ⟨r, hr⟩ := hp
  rw [hr, evK_app]; simp
set_option maxHeartbeats 8000000 in
theorem kcrash_any (SR : SRT) (R : PR SR) (Q : PS SR) (w : World) (own : Ghost) (B0 bk bs : Nat) (t : List Int) (wid : Int) (m : Nat) (D : List Nd) (A : List (Int × List It)) (hx : KX SR B0 bk bs t wid m D A w own) (hm : m < 100000000) (k : Nat) (hk : k < t.length) :
    Calls Try.prog 17 #[.pointer (some ⟨bk, 0, none⟩), .int .i64 k] w fun e w' => e = .returned (.bool true) ∧ KN SR B0 bk bs t wid m (craD t D k) A w own w' := by
  obtain ⟨vt, vs, vl, CC, PK, g⟩ := hx
  obtain ⟨gs, cs, rfl⟩ := g.src
  obtain ⟨c, d, hc, hd, rep, nb⟩ := g.at k hk
  have h8 := g.T.le
  have hso : Own clSrc w B0 87 (.slice (some ⟨gs, 0, none⟩) t.length cs) CC := g.so
  have tgs : own gs = .wd 1 := g.ts gs rfl
  have hgsw : gs < w.heap.size := (hso.lt gs rfl).2
  obtain ⟨N, hN⟩ : ∃ N, t.length = N := ⟨_, rfl⟩
  have HN : Hid (t.length = N) := hN
  have hbg : bk ≠ gs := fun e => by have := g.gm; rw [e, tgs] at this; simp at this
  have HG : Hid (KD SR w own B0 bk bs t wid m D vt ⟨some ⟨gs, 0, none⟩, t.length, cs⟩ vl CC PK A) := g
  have HR : Hid (PR SR) := R
  have HQ : Hid (PS SR) := Q
  have HCD : Hid (CC[k]? = some c ∧ D[k]? = some d) := ⟨hc, hd⟩
  have HRP : Hid (SrcRep w own B0 k c d ∧ NdB wid d) := ⟨rep, nb⟩
  have HPRE : Hid (∃ r, d.lev = d.kev ++ r) := g.inv.pre k d hd
  have hnd : isNd t k = true := by simp [isNd]; omega
  have HE : Hid (ndE t k = 0) := by unfold Hid ndE; rw [if_pos hnd]
  have HD : Hid (craD t D k = D.set k { d with lev := d.kev, lcl := d.kcl, lmk := d.kmk, items := d.saved }) := by unfold Hid craD; rw [if_pos hnd]; simp [hd]
  have HI : Hid (Inv t (D.set k { d with lev := d.kev, lcl := d.kcl, lmk := d.kmk, items := d.saved }) A) := by unfold Hid; rw [← HD.out]; exact inv_crash g.inv k
  have HK0 : Hid (KC w w own B0 gs N cs k CC c d 0 c.ev own) := by
    refine ⟨?_, Same.refl _ _, fun v hv => by rw [if_neg (by omega)]; exact rep.ev v hv, rep.te⟩
    rw [set_self hc]
    exact ⟨Fr.refl _ _ _, by rw [← hN]; exact hso⟩
  have HDI : Hid (d.lev.length ≤ m ∧ d.kev.length ≤ m) := ⟨(g.di k d hd).1, (g.di k d hd).2.1⟩
  have k0 : (0 : Int) ≤ (k : Int) := by omega
  have k1 : (k : Int) < (N : Int) := by omega
  have HRUN : Hid (∀ wr, Fr own (fun t => t = .wd 1) w wr → wr.cell? ⟨bk, 3, none⟩ = some (.slice (some ⟨gs, 0, none⟩) N cs) ∧ wr.cell? ⟨bk, 0, none⟩ = some (.pointer (some ⟨bs, 0, none⟩))) := fun wr f => ⟨cell_fr' f (by rw [cell_of_row _ _ _ _ _ _ g.run, ← hN]; rfl) (by rw [g.gm]; simp) (by rw [g.gm]; simp), cell_fr' f (by rw [cell_of_row _ _ _ _ _ _ g.run]; rfl) (by rw [g.gm]; simp) (by rw [g.gm]; simp)⟩
  have hb0 := g.b0
  clear g R Q rep nb hd hc hso hN
  go_enter Try.func17, Try.ntmps17
  go_wp2
  go_loopw [5] (fun i wr => ∃ j : Nat, j ≤ 20 ∧ i = .int .i64 j ∧ ∃ E own1, KC w wr own B0 gs N cs k CC c d j E own1) (fun i _ => 20 - (intOf i).toNat)
  case atStart => exact ⟨0, by omega, rfl, c.ev, own, HK0.out⟩
  case round =>
    clear HK0
    obtain ⟨j, hj, rfl, E, own1, kc⟩ := hrel
    have HKC : Hid (KC w wr own B0 gs N cs k CC c d j E own1) := kc
    obtain ⟨d3, d0⟩ := HRUN.out wr kc.kb.f
    have hkC : (CC.set k { c with ev := E })[k]? = some { c with ev := E } := List.getElem?_set_self (List.getElem?_eq_some_iff.1 HCD.out.1).1
    have hszr := kc.kb.f.size
    clear kc
    by_cases hlj : j < 20
    · have cev : wr.cell? ⟨gs, k * 82 + j, none⟩ = some (.slice (E j).p (E j).n (E j).c) := HKC.out.kb.o.cell_at k _ hkC j _ (by show (SrcC.cells _)[j]? = _; rw [SrcC.get _ _ (by omega), SrcC.at_ev _ j hlj])
      have ck : wr.cell? ⟨gs, k * 82 + 20 + j, none⟩ = some (.int .i64 ((evK d.kev j).length : Int)) := by
        rw [Nat.add_assoc, ← HRP.out.1.kept j hlj]
        exact HKC.out.kb.o.cell_at k _ hkC (20 + j) _ (by show (SrcC.cells _)[20 + j]? = _; rw [SrcC.get _ _ (by omega), SrcC.at_kept _ j hlj])
      have hoe := HKC.out.ev j hlj
      rw [if_neg (by omega)] at hoe
      have hfrm := Own.sl (s := E j) hoe
      have hcap : (E j).n ≤ (E j).c := by
        obtain ⟨p', c', e', h1', _⟩ := hoe.form
        simp only [Sl.val] at e'
        injection e' with e1 e2 e3
        omega
      have hkp := evK_kept HPRE.out j
      have hlk : (evK d.kev j).length ≤ (evK d.lev j).length := by
        have := congrArg List.length hkp
        simp at this; omega
      have hl2 := evK_len d.lev j
      have hdi := HDI.out
      obtain ⟨q, hq⟩ : ∃ q, q = (evK d.kev j).length := ⟨_, rfl⟩
      rw [← hq] at ck hlk
      have hrows : RowsAt clE wr (E j).p ((evK d.kev j).map evOf) := by
        have := hfrm.2.take q
        rw [← List.map_take, hq, hkp] at this
        exact this
      have HROWS : Hid (RowsAt clE wr (E j).p ((evK d.kev j).map evOf)) := hrows
      have hlen : (E j).n = (evK d.lev j).length := by have := hfrm.1; simp at this; omega
      have HQ' : Hid (((evK d.kev j).map evOf).length = q) := by unfold Hid; simp [hq]
      obtain ⟨⟨ep, en, ec⟩, hsl⟩ : ∃ s, s = E j := ⟨_, rfl⟩
      rw [← hsl] at cev HROWS hcap hlen
      replace cev : wr.cell? ⟨gs, k * 82 + j, none⟩ = some (.slice ep en ec) := cev
      replace hcap : en ≤ ec := hcap
      replace hlen : en = (evK d.lev j).length := hlen
      have HROWS' : Hid (RowsAt clE wr ep ((evK d.kev j).map evOf)) := HROWS
      have hec : ec ≤ maxLen := by
        obtain ⟨p', c', e', _, h2', _⟩ := hoe.form
        rw [← hsl] at e'
        simp only [Sl.val] at e'
        injection e' with e1 e2 e3
        omega
      have hec' : (ec : Int) ≤ 9223372036854775807 := by simp only [maxLen] at hec; omega
      have hqe : q ≤ ec := by omega
      have hqb : q ≤ 100000000 := by omega
      have q0 : (0 : Int) ≤ (q : Int) := by omega
      have q1 : (q : Int) ≤ (ec : Int) := by omega
      have j0 : (0 : Int) ≤ (j : Int) := by omega
      have j1 : (j : Int) < 20 := by omega
      have fb : wr.frozen? ⟨gs, k * 82 + j, none⟩ = false := by obtain ⟨cur, hcur⟩ := HKC.out.kb.o.blk; exact frozen_of_row _ _ _ _ _ hcur
      have HBL : Hid (∃ cur, wr.heap[gs]? = some (.cells cur 87)) := HKC.out.kb.o.blk
      have hgr : gs < wr.heap.size := by omega
      clear hsl hq hfrm hoe hkp hrows HROWS hkC d0 hdi hl2
      go_upto_region 5 with fail
      by_cases hq0 : q = 0
      · subst hq0
        have hT0 : (fun w' : World => w'.cell? ⟨bk, 3, none⟩ = some (.slice (some ⟨gs, 0, none⟩) N cs) ∧ w'.cell? ⟨gs, k * 82 + j, none⟩ = some (.slice ep en ec) ∧ w'.cell? ⟨gs, k * 82 + 20 + j, none⟩ = some (.int .i64 0)) wr.drew := ⟨d3, cev, ck⟩
        refine wp_region_held (S := fun w' : World => w'.cell? ⟨bk, 3, none⟩ = some (.slice (some ⟨gs, 0, none⟩) N cs) ∧ w'.cell? ⟨gs, k * 82 + j, none⟩ = some (.slice ep en ec) ∧ w'.cell? ⟨gs, k * 82 + 20 + j, none⟩ = some (.int .i64 0)) mixed ?_
        refine wpAnyH_take (i := 0) (v := (.slice none 0 0)) rfl (by kernel_rfl) (by kernel_rfl) (by kernel_rfl) (fun _ _ _ h => h) (Or.inl ⟨by rfl, fun wx hx => by go_simp⟩) hT0 ?_
        try dsimp only
        try simp only [Act.put, List.getElem_toArray, List.getElem_cons_succ, List.getElem_cons_zero, List.setIfInBounds_toArray, List.set_cons_zero, List.set_cons_succ]
        refine wpAnyH_take (i := 1) (v := (.pointer (some ⟨bk, 0, none⟩))) rfl (by kernel_rfl) (by kernel_rfl) (by kernel_rfl) (fun _ _ _ h => h) (Or.inl ⟨by rfl, fun wx hx => by go_simp⟩) hT0 ?_
        try dsimp only
        try simp only [Act.put, List.getElem_toArray, List.getElem_cons_succ, List.getElem_cons_zero, List.setIfInBounds_toArray, List.set_cons_zero, List.set_cons_succ]
        refine wpAnyH_take (i := 2) (v := (.pointer (some ⟨bk, 0, none⟩))) rfl (by kernel_rfl) (by kernel_rfl) (by kernel_rfl) (fun _ _ _ h => h) (Or.inl ⟨by rfl, fun wx hx => by go_simp⟩) hT0 ?_
        try dsimp only
        try simp only [Act.put, List.getElem_toArray, List.getElem_cons_succ, List.getElem_cons_zero, List.setIfInBounds_toArray, List.set_cons_zero, List.set_cons_succ]
        refine wpAnyH_take (i := 3) (v := (.pointer (some ⟨bk, 3, none⟩))) rfl (by kernel_rfl) (by kernel_rfl) (by kernel_rfl) (fun _ _ _ h => h) (Or.inl ⟨by rfl, fun wx hx => by go_simp⟩) hT0 ?_
        try dsimp only
        try simp only [Act.put, List.getElem_toArray, List.getElem_cons_succ, List.getElem_cons_zero, List.setIfInBounds_toArray, List.set_cons_zero, List.set_cons_succ]
        refine wpAnyH_take (i := 4) (v := (.slice (some ⟨gs, 0, none⟩) N cs)) rfl (by kernel_rfl) (by kernel_rfl) (by kernel_rfl) (fun _ _ _ h => h) (Or.inl ⟨by rfl, fun wx hx => by have hx1 := hx.1; go_simp⟩) hT0 ?_
        try dsimp only
        try simp only [Act.put, List.getElem_toArray, List.getElem_cons_succ, List.getElem_cons_zero, List.setIfInBounds_toArray, List.set_cons_zero, List.set_cons_succ]
        refine wpAnyH_take (i := 5) (v := (.int .i64 k)) rfl (by kernel_rfl) (by kernel_rfl) (by kernel_rfl) (fun _ _ _ h => h) (Or.inl ⟨by rfl, fun wx hx => by go_simp⟩) hT0 ?_
        try dsimp only
        try simp only [Act.put, List.getElem_toArray, List.getElem_cons_succ, List.getElem_cons_zero, List.setIfInBounds_toArray, List.set_cons_zero, List.set_cons_succ]
        refine wpAnyH_take (i := 6) (v := (.int .i64 j)) rfl (by kernel_rfl) (by kernel_rfl) (by kernel_rfl) (fun _ _ _ h => h) (Or.inl ⟨by rfl, fun wx hx => by go_simp⟩) hT0 ?_
        try dsimp only
        try simp only [Act.put, List.getElem_toArray, List.getElem_cons_succ, List.getElem_cons_zero, List.setIfInBounds_toArray, List.set_cons_zero, List.set_cons_succ]
        refine wpAnyH_take (i := 7) (v := (.pointer (some ⟨gs, k * 82, none⟩))) rfl (by kernel_rfl) (by kernel_rfl) (by kernel_rfl) (fun _ _ _ h => h) (Or.inl ⟨by rfl, fun wx hx => by go_simp⟩) hT0 ?_
        try dsimp only
        try simp only [Act.put, List.getElem_toArray, List.getElem_cons_succ, List.getElem_cons_zero, List.setIfInBounds_toArray, List.set_cons_zero, List.set_cons_succ]
        refine wpAnyH_take (i := 8) (v := (.pointer (some ⟨gs, k * 82, none⟩))) rfl (by kernel_rfl) (by kernel_rfl) (by kernel_rfl) (fun _ _ _ h => h) (Or.inl ⟨by rfl, fun wx hx => by go_simp⟩) hT0 ?_
        try dsimp only
        try simp only [Act.put, List.getElem_toArray, List.getElem_cons_succ, List.getElem_cons_zero, List.setIfInBounds_toArray, List.set_cons_zero, List.set_cons_succ]
        refine wpAnyH_take (i := 9) (v := (.pointer (some ⟨gs, k * 82 + j, none⟩))) rfl (by kernel_rfl) (by kernel_rfl) (by kernel_rfl) (fun _ _ _ h => h) (Or.inl ⟨by rfl, fun wx hx => by go_simp⟩) hT0 ?_
        try dsimp only
        try simp only [Act.put, List.getElem_toArray, List.getElem_cons_succ, List.getElem_cons_zero, List.setIfInBounds_toArray, List.set_cons_zero, List.set_cons_succ]
        refine wpAnyH_take (i := 10) (v := (.slice ep en ec)) rfl (by kernel_rfl) (by kernel_rfl) (by kernel_rfl) (fun _ _ _ h => h) (Or.inl ⟨by rfl, fun wx hx => by have hx1 := hx.2.1; go_simp⟩) hT0 ?_
        try dsimp only
        try simp only [Act.put, List.getElem_toArray, List.getElem_cons_succ, List.getElem_cons_zero, List.setIfInBounds_toArray, List.set_cons_zero, List.set_cons_succ]
        refine wpAnyH_take (i := 11) (v := (.pointer (some ⟨bk, 0, none⟩))) rfl (by kernel_rfl) (by kernel_rfl) (by kernel_rfl) (fun _ _ _ h => h) (Or.inl ⟨by rfl, fun wx hx => by go_simp⟩) hT0 ?_
        try dsimp only
        try simp only [Act.put, List.getElem_toArray, List.getElem_cons_succ, List.getElem_cons_zero, List.setIfInBounds_toArray, List.set_cons_zero, List.set_cons_succ]
        refine wpAnyH_take (i := 12) (v := (.pointer (some ⟨bk, 0, none⟩))) rfl (by kernel_rfl) (by kernel_rfl) (by kernel_rfl) (fun _ _ _ h => h) (Or.inl ⟨by rfl, fun wx hx => by go_simp⟩) hT0 ?_
        try dsimp only
        try simp only [Act.put, List.getElem_toArray, List.getElem_cons_succ, List.getElem_cons_zero, List.setIfInBounds_toArray, List.set_cons_zero, List.set_cons_succ]
        refine wpAnyH_take (i := 13) (v := (.pointer (some ⟨bk, 3, none⟩))) rfl (by kernel_rfl) (by kernel_rfl) (by kernel_rfl) (fun _ _ _ h => h) (Or.inl ⟨by rfl, fun wx hx => by go_simp⟩) hT0 ?_
        try dsimp only
        try simp only [Act.put, List.getElem_toArray, List.getElem_cons_succ, List.getElem_cons_zero, List.setIfInBounds_toArray, List.set_cons_zero, List.set_cons_succ]
        refine wpAnyH_take (i := 14) (v := (.slice (some ⟨gs, 0, none⟩) N cs)) rfl (by kernel_rfl) (by kernel_rfl) (by kernel_rfl) (fun _ _ _ h => h) (Or.inl ⟨by rfl, fun wx hx => by have hx1 := hx.1; go_simp⟩) hT0 ?_
        try dsimp only
        try simp only [Act.put, List.getElem_toArray, List.getElem_cons_succ, List.getElem_cons_zero, List.setIfInBounds_toArray, List.set_cons_zero, List.set_cons_succ]
        refine wpAnyH_take (i := 15) (v := (.int .i64 k)) rfl (by kernel_rfl) (by kernel_rfl) (by kernel_rfl) (fun _ _ _ h => h) (Or.inl ⟨by rfl, fun wx hx => by go_simp⟩) hT0 ?_
        try dsimp only
        try simp only [Act.put, List.getElem_toArray, List.getElem_cons_succ, List.getElem_cons_zero, List.setIfInBounds_toArray, List.set_cons_zero, List.set_cons_succ]
        refine wpAnyH_take (i := 16) (v := (.int .i64 j)) rfl (by kernel_rfl) (by kernel_rfl) (by kernel_rfl) (fun _ _ _ h => h) (Or.inl ⟨by rfl, fun wx hx => by go_simp⟩) hT0 ?_
        try dsimp only
        try simp only [Act.put, List.getElem_toArray, List.getElem_cons_succ, List.getElem_cons_zero, List.setIfInBounds_toArray, List.set_cons_zero, List.set_cons_succ]
        refine wpAnyH_take (i := 17) (v := (.pointer (some ⟨gs, k * 82, none⟩))) rfl (by kernel_rfl) (by kernel_rfl) (by kernel_rfl) (fun _ _ _ h => h) (Or.inl ⟨by rfl, fun wx hx => by go_simp⟩) hT0 ?_
        try dsimp only
        try simp only [Act.put, List.getElem_toArray, List.getElem_cons_succ, List.getElem_cons_zero, List.setIfInBounds_toArray, List.set_cons_zero, List.set_cons_succ]
        refine wpAnyH_take (i := 18) (v := (.pointer (some ⟨gs, k * 82 + 20, none⟩))) rfl (by kernel_rfl) (by kernel_rfl) (by kernel_rfl) (fun _ _ _ h => h) (Or.inl ⟨by rfl, fun wx hx => by go_simp⟩) hT0 ?_
        try dsimp only
        try simp only [Act.put, List.getElem_toArray, List.getElem_cons_succ, List.getElem_cons_zero, List.setIfInBounds_toArray, List.set_cons_zero, List.set_cons_succ]
        refine wpAnyH_take (i := 19) (v := (.pointer (some ⟨gs, k * 82 + 20 + j, none⟩))) rfl (by kernel_rfl) (by kernel_rfl) (by kernel_rfl) (fun _ _ _ h => h) (Or.inl ⟨by rfl, fun wx hx => by go_simp⟩) hT0 ?_
        try dsimp only
        try simp only [Act.put, List.getElem_toArray, List.getElem_cons_succ, List.getElem_cons_zero, List.setIfInBounds_toArray, List.set_cons_zero, List.set_cons_succ]
        refine wpAnyH_take (i := 20) (v := (.int .i64 0)) rfl (by kernel_rfl) (by kernel_rfl) (by kernel_rfl) (fun _ _ _ h => h) (Or.inl ⟨by rfl, fun wx hx => by have hx1 := hx.2.2; go_simp⟩) hT0 ?_
        try dsimp only
        try simp only [Act.put, List.getElem_toArray, List.getElem_cons_succ, List.getElem_cons_zero, List.setIfInBounds_toArray, List.set_cons_zero, List.set_cons_succ]
        refine wpAnyH_take (i := 21) (v := (.slice ep 0 ec)) rfl (by kernel_rfl) (by kernel_rfl) (by kernel_rfl) (fun _ _ _ h => h) (Or.inl ⟨by rfl, fun wx hx => by go_simp⟩) hT0 ?_
        try dsimp only
        try simp only [Act.put, List.getElem_toArray, List.getElem_cons_succ, List.getElem_cons_zero, List.setIfInBounds_toArray, List.set_cons_zero, List.set_cons_succ]
        refine wpAnyH_take (i := 22) (v := (.slice none 0 0)) rfl (by kernel_rfl) (by kernel_rfl) (by kernel_rfl) (fun _ _ _ h => h) (Or.inl ⟨by rfl, fun wx hx => by cases ep <;> go_simp⟩) hT0 ?_
        try dsimp only
        try simp only [Act.put, List.getElem_toArray, List.getElem_cons_succ, List.getElem_cons_zero, List.setIfInBounds_toArray, List.set_cons_zero, List.set_cons_succ]
        refine wpAnyH_take (i := 23) (v := (.slice none 0 0)) rfl (by kernel_rfl) (by kernel_rfl) (by kernel_rfl) (fun _ _ _ h => h) (Or.inl ⟨by rfl, fun wx hx => by go_simp⟩) hT0 ?_
        try dsimp only
        try simp only [Act.put, List.getElem_toArray, List.getElem_cons_succ, List.getElem_cons_zero, List.setIfInBounds_toArray, List.set_cons_zero, List.set_cons_succ]
        refine wpAnyH_done (by kernel_rfl) ?_ _
        clear hT0
        obtain ⟨w3, hw3⟩ : ∃ w3, w3 = wr.drew := ⟨_, rfl⟩
        have HB3 : Hid (Below wr.heap.size wr w3) := by unfold Hid; rw [hw3]; exact below_drew
        show Exit.then _ _ Exit.normal _ wr.drew
        rw [← hw3]
        clear hw3
        have HNIL : Hid ((evK d.kev j).map evOf = []) := List.eq_nil_of_length_eq_zero HQ'.out
        have g3 := (HRUN.out w3 (HKC.out.kb.below HB3.out).f).1
        have cx3 : w3.cell? ⟨gs, k * 82 + j, none⟩ = some (.slice ep en ec) := cell_keep HB3.out cev
        have fx3 : w3.frozen? ⟨gs, k * 82 + j, none⟩ = false := by obtain ⟨cur, hcur⟩ := HBL.out; exact frozen_of_row _ _ _ _ _ (keep HB3.out hcur)
        have HZ : Hid (∃ E' own1', KC w (w3.setCell ⟨gs, k * 82 + j, none⟩ (.slice none 0 0)) own B0 gs N cs k CC c d (j + 1) E' own1') := HKC.out.next tgs hgsw HCD.out.1 hlj HB3.out ⟨none, 0, 0⟩ (by rw [HNIL.out]; exact Own.nil _ _ _) (fun i hi => by cases hi)
        clear cev ck d3 fb
        go_wp2
        go_roundw
        case rel => exact ⟨j + 1, by omega, by go_num, HZ.out⟩
        case measure => simp [intOf]; omega
      · have hqp : 0 < q := by omega
        have hT0 : (fun w' : World => w'.cell? ⟨bk, 3, none⟩ = some (.slice (some ⟨gs, 0, none⟩) N cs) ∧ w'.cell? ⟨gs, k * 82 + j, none⟩ = some (.slice ep en ec) ∧ w'.cell? ⟨gs, k * 82 + 20 + j, none⟩ = some (.int .i64 q)) wr.drew := ⟨d3, cev, ck⟩
        refine wp_region_held (S := fun w' : World => w'.cell? ⟨bk, 3, none⟩ = some (.slice (some ⟨gs, 0, none⟩) N cs) ∧ w'.cell? ⟨gs, k * 82 + j, none⟩ = some (.slice ep en ec) ∧ w'.cell? ⟨gs, k * 82 + 20 + j, none⟩ = some (.int .i64 q)) mixed ?_
        refine wpAnyH_take (i := 0) (v := (.slice none 0 0)) rfl (by kernel_rfl) (by kernel_rfl) (by kernel_rfl) (fun _ _ _ h => h) (Or.inl ⟨by rfl, fun wx hx => by go_simp⟩) hT0 ?_
        try dsimp only
        try simp only [Act.put, List.getElem_toArray, List.getElem_cons_succ, List.getElem_cons_zero, List.setIfInBounds_toArray, List.set_cons_zero, List.set_cons_succ]
        refine wpAnyH_take (i := 1) (v := (.pointer (some ⟨bk, 0, none⟩))) rfl (by kernel_rfl) (by kernel_rfl) (by kernel_rfl) (fun _ _ _ h => h) (Or.inl ⟨by rfl, fun wx hx => by go_simp⟩) hT0 ?_
        try dsimp only
        try simp only [Act.put, List.getElem_toArray, List.getElem_cons_succ, List.getElem_cons_zero, List.setIfInBounds_toArray, List.set_cons_zero, List.set_cons_succ]
        refine wpAnyH_take (i := 2) (v := (.pointer (some ⟨bk, 0, none⟩))) rfl (by kernel_rfl) (by kernel_rfl) (by kernel_rfl) (fun _ _ _ h => h) (Or.inl ⟨by rfl, fun wx hx => by go_simp⟩) hT0 ?_
        try dsimp only
        try simp only [Act.put, List.getElem_toArray, List.getElem_cons_succ, List.getElem_cons_zero, List.setIfInBounds_toArray, List.set_cons_zero, List.set_cons_succ]
        refine wpAnyH_take (i := 3) (v := (.pointer (some ⟨bk, 3, none⟩))) rfl (by kernel_rfl) (by kernel_rfl) (by kernel_rfl) (fun _ _ _ h => h) (Or.inl ⟨by rfl, fun wx hx => by go_simp⟩) hT0 ?_
        try dsimp only
        try simp only [Act.put, List.getElem_toArray, List.getElem_cons_succ, List.getElem_cons_zero, List.setIfInBounds_toArray, List.set_cons_zero, List.set_cons_succ]
        refine wpAnyH_take (i := 4) (v := (.slice (some ⟨gs, 0, none⟩) N cs)) rfl (by kernel_rfl) (by kernel_rfl) (by kernel_rfl) (fun _ _ _ h => h) (Or.inl ⟨by rfl, fun wx hx => by have hx1 := hx.1; go_simp⟩) hT0 ?_
        try dsimp only
        try simp only [Act.put, List.getElem_toArray, List.getElem_cons_succ, List.getElem_cons_zero, List.setIfInBounds_toArray, List.set_cons_zero, List.set_cons_succ]
        refine wpAnyH_take (i := 5) (v := (.int .i64 k)) rfl (by kernel_rfl) (by kernel_rfl) (by kernel_rfl) (fun _ _ _ h => h) (Or.inl ⟨by rfl, fun wx hx => by go_simp⟩) hT0 ?_
        try dsimp only
        try simp only [Act.put, List.getElem_toArray, List.getElem_cons_succ, List.getElem_cons_zero, List.setIfInBounds_toArray, List.set_cons_zero, List.set_cons_succ]
        refine wpAnyH_take (i := 6) (v := (.int .i64 j)) rfl (by kernel_rfl) (by kernel_rfl) (by kernel_rfl) (fun _ _ _ h => h) (Or.inl ⟨by rfl, fun wx hx => by go_simp⟩) hT0 ?_
        try dsimp only
        try simp only [Act.put, List.getElem_toArray, List.getElem_cons_succ, List.getElem_cons_zero, List.setIfInBounds_toArray, List.set_cons_zero, List.set_cons_succ]
        refine wpAnyH_take (i := 7) (v := (.pointer (some ⟨gs, k * 82, none⟩))) rfl (by kernel_rfl) (by kernel_rfl) (by kernel_rfl) (fun _ _ _ h => h) (Or.inl ⟨by rfl, fun wx hx => by go_simp⟩) hT0 ?_
        try dsimp only
        try simp only [Act.put, List.getElem_toArray, List.getElem_cons_succ, List.getElem_cons_zero, List.setIfInBounds_toArray, List.set_cons_zero, List.set_cons_succ]
        refine wpAnyH_take (i := 8) (v := (.pointer (some ⟨gs, k * 82, none⟩))) rfl (by kernel_rfl) (by kernel_rfl) (by kernel_rfl) (fun _ _ _ h => h) (Or.inl ⟨by rfl, fun wx hx => by go_simp⟩) hT0 ?_
        try dsimp only
        try simp only [Act.put, List.getElem_toArray, List.getElem_cons_succ, List.getElem_cons_zero, List.setIfInBounds_toArray, List.set_cons_zero, List.set_cons_succ]
        refine wpAnyH_take (i := 9) (v := (.pointer (some ⟨gs, k * 82 + j, none⟩))) rfl (by kernel_rfl) (by kernel_rfl) (by kernel_rfl) (fun _ _ _ h => h) (Or.inl ⟨by rfl, fun wx hx => by go_simp⟩) hT0 ?_
        try dsimp only
        try simp only [Act.put, List.getElem_toArray, List.getElem_cons_succ, List.getElem_cons_zero, List.setIfInBounds_toArray, List.set_cons_zero, List.set_cons_succ]
        refine wpAnyH_take (i := 10) (v := (.slice ep en ec)) rfl (by kernel_rfl) (by kernel_rfl) (by kernel_rfl) (fun _ _ _ h => h) (Or.inl ⟨by rfl, fun wx hx => by have hx1 := hx.2.1; go_simp⟩) hT0 ?_
        try dsimp only
        try simp only [Act.put, List.getElem_toArray, List.getElem_cons_succ, List.getElem_cons_zero, List.setIfInBounds_toArray, List.set_cons_zero, List.set_cons_succ]
        refine wpAnyH_take (i := 11) (v := (.pointer (some ⟨bk, 0, none⟩))) rfl (by kernel_rfl) (by kernel_rfl) (by kernel_rfl) (fun _ _ _ h => h) (Or.inl ⟨by rfl, fun wx hx => by go_simp⟩) hT0 ?_
        try dsimp only
        try simp only [Act.put, List.getElem_toArray, List.getElem_cons_succ, List.getElem_cons_zero, List.setIfInBounds_toArray, List.set_cons_zero, List.set_cons_succ]
        refine wpAnyH_take (i := 12) (v := (.pointer (some ⟨bk, 0, none⟩))) rfl (by kernel_rfl) (by kernel_rfl) (by kernel_rfl) (fun _ _ _ h => h) (Or.inl ⟨by rfl, fun wx hx => by go_simp⟩) hT0 ?_
        try dsimp only
        try simp only [Act.put, List.getElem_toArray, List.getElem_cons_succ, List.getElem_cons_zero, List.setIfInBounds_toArray, List.set_cons_zero, List.set_cons_succ]
        refine wpAnyH_take (i := 13) (v := (.pointer (some ⟨bk, 3, none⟩))) rfl (by kernel_rfl) (by kernel_rfl) (by kernel_rfl) (fun _ _ _ h => h) (Or.inl ⟨by rfl, fun wx hx => by go_simp⟩) hT0 ?_
        try dsimp only
        try simp only [Act.put, List.getElem_toArray, List.getElem_cons_succ, List.getElem_cons_zero, List.setIfInBounds_toArray, List.set_cons_zero, List.set_cons_succ]
        refine wpAnyH_take (i := 14) (v := (.slice (some ⟨gs, 0, none⟩) N cs)) rfl (by kernel_rfl) (by kernel_rfl) (by kernel_rfl) (fun _ _ _ h => h) (Or.inl ⟨by rfl, fun wx hx => by have hx1 := hx.1; go_simp⟩) hT0 ?_
        try dsimp only
        try simp only [Act.put, List.getElem_toArray, List.getElem_cons_succ, List.getElem_cons_zero, List.setIfInBounds_toArray, List.set_cons_zero, List.set_cons_succ]
        refine wpAnyH_take (i := 15) (v := (.int .i64 k)) rfl (by kernel_rfl) (by kernel_rfl) (by kernel_rfl) (fun _ _ _ h => h) (Or.inl ⟨by rfl, fun wx hx => by go_simp⟩) hT0 ?_
        try dsimp only
        try simp only [Act.put, List.getElem_toArray, List.getElem_cons_succ, List.getElem_cons_zero, List.setIfInBounds_toArray, List.set_cons_zero, List.set_cons_succ]
        refine wpAnyH_take (i := 16) (v := (.int .i64 j)) rfl (by kernel_rfl) (by kernel_rfl) (by kernel_rfl) (fun _ _ _ h => h) (Or.inl ⟨by rfl, fun wx hx => by go_simp⟩) hT0 ?_
        try dsimp only
        try simp only [Act.put, List.getElem_toArray, List.getElem_cons_succ, List.getElem_cons_zero, List.setIfInBounds_toArray, List.set_cons_zero, List.set_cons_succ]
        refine wpAnyH_take (i := 17) (v := (.pointer (some ⟨gs, k * 82, none⟩))) rfl (by kernel_rfl) (by kernel_rfl) (by kernel_rfl) (fun _ _ _ h => h) (Or.inl ⟨by rfl, fun wx hx => by go_simp⟩) hT0 ?_
        try dsimp only
        try simp only [Act.put, List.getElem_toArray, List.getElem_cons_succ, List.getElem_cons_zero, List.setIfInBounds_toArray, List.set_cons_zero, List.set_cons_succ]
        refine wpAnyH_take (i := 18) (v := (.pointer (some ⟨gs, k * 82 + 20, none⟩))) rfl (by kernel_rfl) (by kernel_rfl) (by kernel_rfl) (fun _ _ _ h => h) (Or.inl ⟨by rfl, fun wx hx => by go_simp⟩) hT0 ?_
        try dsimp only
        try simp only [Act.put, List.getElem_toArray, List.getElem_cons_succ, List.getElem_cons_zero, List.setIfInBounds_toArray, List.set_cons_zero, List.set_cons_succ]
        refine wpAnyH_take (i := 19) (v := (.pointer (some ⟨gs, k * 82 + 20 + j, none⟩))) rfl (by kernel_rfl) (by kernel_rfl) (by kernel_rfl) (fun _ _ _ h => h) (Or.inl ⟨by rfl, fun wx hx => by go_simp⟩) hT0 ?_
        try dsimp only
        try simp only [Act.put, List.getElem_toArray, List.getElem_cons_succ, List.getElem_cons_zero, List.setIfInBounds_toArray, List.set_cons_zero, List.set_cons_succ]
        refine wpAnyH_take (i := 20) (v := (.int .i64 q)) rfl (by kernel_rfl) (by kernel_rfl) (by kernel_rfl) (fun _ _ _ h => h) (Or.inl ⟨by rfl, fun wx hx => by have hx1 := hx.2.2; go_simp⟩) hT0 ?_
        try dsimp only
        try simp only [Act.put, List.getElem_toArray, List.getElem_cons_succ, List.getElem_cons_zero, List.setIfInBounds_toArray, List.set_cons_zero, List.set_cons_succ]
        refine wpAnyH_take (i := 21) (v := (.slice ep q ec)) rfl (by kernel_rfl) (by kernel_rfl) (by kernel_rfl) (fun _ _ _ h => h) (Or.inl ⟨by rfl, fun wx hx => by go_simp⟩) hT0 ?_
        try dsimp only
        try simp only [Act.put, List.getElem_toArray, List.getElem_cons_succ, List.getElem_cons_zero, List.setIfInBounds_toArray, List.set_cons_zero, List.set_cons_succ]
        refine wpAnyH_all (rs := [22]) (by kernel_rfl) (by simp) ?_
        intro jj hjj
        simp only [List.mem_cons, List.not_mem_nil, or_false] at hjj
        subst hjj
        refine wpOp_append_e rfl rfl _ _ rfl B0 (.slice none 0 0) [] rfl (Own.nil _ _ _) ep q ec ((evK d.kev j).map evOf) rfl HQ'.out (by exact HROWS'.out) hqp (by simp; omega) (by show B0 ≤ wr.heap.size; omega) ?_
        intro vv w3 o3 g3 t3 f3
        obtain ⟨gn, cn, rfl⟩ := f3
        have hl1 : ([] ++ (evK d.kev j).map evOf).length = q := by simpa using HQ'.out
        rw [hl1] at o3 t3 ⊢
        rw [List.nil_append] at o3
        have hb3 : Below wr.heap.size wr w3 := ⟨g3.os, g3.tape, g3.output, g3.size, fun i hi => g3.block i hi (by simp [Value.ownBlock])⟩
        have t3' : ∀ i, (Value.slice (some ⟨gn, 0, none⟩) q cn).ownBlock = some i → wr.heap.size ≤ i := fun i hi => by rcases t3 with a | a; (rw [a] at hi; cases hi); rw [a] at hi; have h0 : wr.heap.size = i := Option.some.inj hi; omega
        have hT1 : (fun w' : World => w'.cell? ⟨bk, 3, none⟩ = some (.slice (some ⟨gs, 0, none⟩) N cs) ∧ w'.cell? ⟨gs, k * 82 + j, none⟩ = some (.slice ep en ec) ∧ w'.cell? ⟨gs, k * 82 + 20 + j, none⟩ = some (.int .i64 q)) w3 := ⟨cell_keep hb3 d3, cell_keep hb3 cev, cell_keep hb3 ck⟩
        refine ⟨hT1, ?_⟩
        try dsimp only
        try simp only [Act.put, List.getElem_toArray, List.getElem_cons_succ, List.getElem_cons_zero, List.setIfInBounds_toArray, List.set_cons_zero, List.set_cons_succ]
        refine wpAnyH_take (i := 23) (v := (.slice (some ⟨gn, 0, none⟩) q cn)) rfl (by kernel_rfl) (by kernel_rfl) (by kernel_rfl) (fun _ _ _ h => h) (Or.inl ⟨by rfl, fun wx hx => by go_simp⟩) hT1 ?_
        try dsimp only
        try simp only [Act.put, List.getElem_toArray, List.getElem_cons_succ, List.getElem_cons_zero, List.setIfInBounds_toArray, List.set_cons_zero, List.set_cons_succ]
        refine wpAnyH_done (by kernel_rfl) ?_ _
        have g3 := (HRUN.out w3 (HKC.out.kb.below hb3).f).1
        have cx3 : w3.cell? ⟨gs, k * 82 + j, none⟩ = some (.slice ep en ec) := cell_keep hb3 cev
        have fx3 : w3.frozen? ⟨gs, k * 82 + j, none⟩ = false := by obtain ⟨cur, hcur⟩ := HBL.out; exact frozen_of_row _ _ _ _ _ (keep hb3 hcur)
        have HZ : Hid (∃ E' own1', KC w (w3.setCell ⟨gs, k * 82 + j, none⟩ (.slice (some ⟨gn, 0, none⟩) q cn)) own B0 gs N cs k CC c d (j + 1) E' own1') := HKC.out.next tgs hgsw HCD.out.1 hlj hb3 ⟨some ⟨gn, 0, none⟩, q, cn⟩ o3 t3'
        clear cev ck d3 fb
        clear hT0 hT1 o3 t3 t3' hb3 hl1
        go_wp2
        go_roundw
        case rel => exact ⟨j + 1, by omega, by go_num, HZ.out⟩
        case measure => simp [intOf]; omega
    · obtain rfl : j = 20 := by omega
      have HTG : Hid (own1 gs = .wd 1) := by unfold Hid; rw [HKC.out.sm gs hgsw (by rw [tgs]; simp)]; exact tgs
      have HKB : Hid (KB w wr own B0 gs N cs (CC.set k { c with ev := E })) := HKC.out.kb
      go_upto_region 7 with fail
      have hrg : wr.rangeAt gs (k * 82 + 60) (boolL c.sh) := HKB.out.range k _ hkC 60 (by omega) c.sh (fun v hv => by rw [SrcC.at_sh _ v hv]; try rfl)
      obtain ⟨cur, hcur, hfit, hkb2⟩ := HKB.out.setB tgs k _ { c with ev := E, cl := c.sh } hkC 40 (by omega) c.sh (fun v hv => by rw [SrcC.at_cl _ v hv]) (fun i hi ho => SrcC.at_out _ _ i hi rfl rfl (by rcases ho with h | h; (exact .inl h); exact .inr (.inl (by omega))) (.inr (.inr rfl)) (.inr rfl) (.inr rfl))
      rw [List.set_set] at hkb2
      have hT0 : (fun w' : World => w'.cell? ⟨bk, 3, none⟩ = some (.slice (some ⟨gs, 0, none⟩) N cs) ∧ w'.rangeAt gs (k * 82 + 60) (boolL c.sh)) wr.drew := ⟨d3, hrg⟩
      refine wp_region_held (S := fun w' : World => w'.cell? ⟨bk, 3, none⟩ = some (.slice (some ⟨gs, 0, none⟩) N cs) ∧ w'.rangeAt gs (k * 82 + 60) (boolL c.sh)) mixed ?_
      refine wpAnyH_take (i := 0) (v := (.pointer (some ⟨bk, 0, none⟩))) rfl (by kernel_rfl) (by kernel_rfl) (by kernel_rfl) (fun _ _ _ h => h) (Or.inl ⟨by rfl, fun wx hx => by go_simp⟩) hT0 ?_
      try dsimp only
      try simp only [Act.put, List.getElem_toArray, List.getElem_cons_succ, List.getElem_cons_zero, List.setIfInBounds_toArray, List.set_cons_zero, List.set_cons_succ]
      refine wpAnyH_take (i := 1) (v := (.pointer (some ⟨bk, 0, none⟩))) rfl (by kernel_rfl) (by kernel_rfl) (by kernel_rfl) (fun _ _ _ h => h) (Or.inl ⟨by rfl, fun wx hx => by go_simp⟩) hT0 ?_
      try dsimp only
      try simp only [Act.put, List.getElem_toArray, List.getElem_cons_succ, List.getElem_cons_zero, List.setIfInBounds_toArray, List.set_cons_zero, List.set_cons_succ]
      refine wpAnyH_take (i := 2) (v := (.pointer (some ⟨bk, 3, none⟩))) rfl (by kernel_rfl) (by kernel_rfl) (by kernel_rfl) (fun _ _ _ h => h) (Or.inl ⟨by rfl, fun wx hx => by go_simp⟩) hT0 ?_
      try dsimp only
      try simp only [Act.put, List.getElem_toArray, List.getElem_cons_succ, List.getElem_cons_zero, List.setIfInBounds_toArray, List.set_cons_zero, List.set_cons_succ]
      refine wpAnyH_take (i := 3) (v := (.slice (some ⟨gs, 0, none⟩) N cs)) rfl (by kernel_rfl) (by kernel_rfl) (by kernel_rfl) (fun _ _ _ h => h) (Or.inl ⟨by rfl, fun wx hx => by have hx1 := hx.1; go_simp⟩) hT0 ?_
      try dsimp only
      try simp only [Act.put, List.getElem_toArray, List.getElem_cons_succ, List.getElem_cons_zero, List.setIfInBounds_toArray, List.set_cons_zero, List.set_cons_succ]
      refine wpAnyH_take (i := 4) (v := (.int .i64 k)) rfl (by kernel_rfl) (by kernel_rfl) (by kernel_rfl) (fun _ _ _ h => h) (Or.inl ⟨by rfl, fun wx hx => by go_simp⟩) hT0 ?_
      try dsimp only
      try simp only [Act.put, List.getElem_toArray, List.getElem_cons_succ, List.getElem_cons_zero, List.setIfInBounds_toArray, List.set_cons_zero, List.set_cons_succ]
      refine wpAnyH_take (i := 5) (v := (.pointer (some ⟨bk, 0, none⟩))) rfl (by kernel_rfl) (by kernel_rfl) (by kernel_rfl) (fun _ _ _ h => h) (Or.inl ⟨by rfl, fun wx hx => by go_simp⟩) hT0 ?_
      try dsimp only
      try simp only [Act.put, List.getElem_toArray, List.getElem_cons_succ, List.getElem_cons_zero, List.setIfInBounds_toArray, List.set_cons_zero, List.set_cons_succ]
      refine wpAnyH_take (i := 6) (v := (.pointer (some ⟨bk, 0, none⟩))) rfl (by kernel_rfl) (by kernel_rfl) (by kernel_rfl) (fun _ _ _ h => h) (Or.inl ⟨by rfl, fun wx hx => by go_simp⟩) hT0 ?_
      try dsimp only
      try simp only [Act.put, List.getElem_toArray, List.getElem_cons_succ, List.getElem_cons_zero, List.setIfInBounds_toArray, List.set_cons_zero, List.set_cons_succ]
      refine wpAnyH_take (i := 7) (v := (.pointer (some ⟨bk, 3, none⟩))) rfl (by kernel_rfl) (by kernel_rfl) (by kernel_rfl) (fun _ _ _ h => h) (Or.inl ⟨by rfl, fun wx hx => by go_simp⟩) hT0 ?_
      try dsimp only
      try simp only [Act.put, List.getElem_toArray, List.getElem_cons_succ, List.getElem_cons_zero, List.setIfInBounds_toArray, List.set_cons_zero, List.set_cons_succ]
      refine wpAnyH_take (i := 8) (v := (.slice (some ⟨gs, 0, none⟩) N cs)) rfl (by kernel_rfl) (by kernel_rfl) (by kernel_rfl) (fun _ _ _ h => h) (Or.inl ⟨by rfl, fun wx hx => by have hx1 := hx.1; go_simp⟩) hT0 ?_
      try dsimp only
      try simp only [Act.put, List.getElem_toArray, List.getElem_cons_succ, List.getElem_cons_zero, List.setIfInBounds_toArray, List.set_cons_zero, List.set_cons_succ]
      refine wpAnyH_take (i := 9) (v := (.int .i64 k)) rfl (by kernel_rfl) (by kernel_rfl) (by kernel_rfl) (fun _ _ _ h => h) (Or.inl ⟨by rfl, fun wx hx => by go_simp⟩) hT0 ?_
      try dsimp only
      try simp only [Act.put, List.getElem_toArray, List.getElem_cons_succ, List.getElem_cons_zero, List.setIfInBounds_toArray, List.set_cons_zero, List.set_cons_succ]
      refine wpAnyH_take (i := 10) (v := (.pointer (some ⟨gs, k * 82, none⟩))) rfl (by kernel_rfl) (by kernel_rfl) (by kernel_rfl) (fun _ _ _ h => h) (Or.inl ⟨by rfl, fun wx hx => by go_simp⟩) hT0 ?_
      try dsimp only
      try simp only [Act.put, List.getElem_toArray, List.getElem_cons_succ, List.getElem_cons_zero, List.setIfInBounds_toArray, List.set_cons_zero, List.set_cons_succ]
      refine wpAnyH_take (i := 11) (v := (.pointer (some ⟨gs, k * 82 + 60, none⟩))) rfl (by kernel_rfl) (by kernel_rfl) (by kernel_rfl) (fun _ _ _ h => h) (Or.inl ⟨by rfl, fun wx hx => by go_simp⟩) hT0 ?_
      try dsimp only
      try simp only [Act.put, List.getElem_toArray, List.getElem_cons_succ, List.getElem_cons_zero, List.setIfInBounds_toArray, List.set_cons_zero, List.set_cons_succ]
      refine wpAnyH_take (i := 12) (v := (.agg (boolL c.sh).toArray)) rfl (by kernel_rfl) (by kernel_rfl) (by kernel_rfl) (fun _ _ _ h => h) (yieldsIf_load_mid (by rfl) _ _ rfl _ _ rfl (boolL c.sh) _ (fun wx hx => hx.2) Try.underlying85 rfl (info_bools c.sh)) hT0 ?_
      try dsimp only
      try simp only [Act.put, List.getElem_toArray, List.getElem_cons_succ, List.getElem_cons_zero, List.setIfInBounds_toArray, List.set_cons_zero, List.set_cons_succ]
      refine wpAnyH_take (i := 13) (v := (.pointer (some ⟨gs, k * 82, none⟩))) rfl (by kernel_rfl) (by kernel_rfl) (by kernel_rfl) (fun _ _ _ h => h) (Or.inl ⟨by rfl, fun wx hx => by go_simp⟩) hT0 ?_
      try dsimp only
      try simp only [Act.put, List.getElem_toArray, List.getElem_cons_succ, List.getElem_cons_zero, List.setIfInBounds_toArray, List.set_cons_zero, List.set_cons_succ]
      refine wpAnyH_take (i := 14) (v := (.pointer (some ⟨gs, k * 82 + 40, none⟩))) rfl (by kernel_rfl) (by kernel_rfl) (by kernel_rfl) (fun _ _ _ h => h) (Or.inl ⟨by rfl, fun wx hx => by go_simp⟩) hT0 ?_
      try dsimp only
      try simp only [Act.put, List.getElem_toArray, List.getElem_cons_succ, List.getElem_cons_zero, List.setIfInBounds_toArray, List.set_cons_zero, List.set_cons_succ]
      refine wpAnyH_all (rs := [15]) (by kernel_rfl) (by simp) ?_
      intro jj hjj
      simp only [List.mem_cons, List.not_mem_nil, or_false] at hjj
      subst hjj
      refine wpOp_of_wp rfl rfl (wp_store_lay 85 _ _ rfl gs (k * 82 + 40) (boolL c.sh).toArray rfl rfl _ cur (by exact hcur) (by have := info_bools c.sh; simpa using this) (by simp [boolL_len]; omega) (boolL_one c.sh) ?_)
      have hkb3 : KB w (wr.drew.setRow gs (lay cur (k * 82 + 40) (boolL c.sh))) own B0 gs N cs (CC.set k { c with ev := E, cl := c.sh }) := hkb2.below (w' := wr.drew.setRow gs (lay cur (k * 82 + 40) (boolL c.sh))) ⟨rfl, rfl, rfl, Nat.le_refl _, fun _ _ => rfl⟩
      have hkC2 : (CC.set k { c with ev := E, cl := c.sh })[k]? = some { c with ev := E, cl := c.sh } := List.getElem?_set_self (List.getElem?_eq_some_iff.1 HCD.out.1).1
      have hT3 : (fun w' : World => w'.cell? ⟨bk, 3, none⟩ = some (.slice (some ⟨gs, 0, none⟩) N cs) ∧ w'.rangeAt gs (k * 82 + 60) (boolL c.sh)) (wr.drew.setRow gs (lay cur (k * 82 + 40) (boolL c.sh))) := ⟨(HRUN.out _ hkb3.f).1, hkb3.range k _ hkC2 60 (by omega) c.sh (fun v hv => by rw [SrcC.at_sh _ v hv]; try rfl)⟩
      refine ⟨(by simpa using hT3), ?_⟩
      try dsimp only
      try simp only [Act.put, List.getElem_toArray, List.getElem_cons_succ, List.getElem_cons_zero, List.setIfInBounds_toArray, List.set_cons_zero, List.set_cons_succ]
      refine wpAnyH_done (by kernel_rfl) ?_ _
      obtain ⟨w3, hw3⟩ : ∃ w3, w3 = wr.drew.setRow gs (lay cur (k * 82 + 40) (boolL c.sh)) := ⟨_, rfl⟩
      have HK3 : Hid (KB w w3 own B0 gs N cs (CC.set k { c with ev := E, cl := c.sh })) := by unfold Hid; rw [hw3]; exact hkb3
      have HW3 : Hid (Fr own1 (fun t => t = .wd 1) wr w3) := by unfold Hid; rw [hw3]; exact ⟨rfl, rfl, rfl, by simp, fun i hi hf hn => setRow_other _ _ _ _ (fun e => hn (by rw [e]; exact HTG.out))⟩
      obtain ⟨f3, f0⟩ := HRUN.out w3 HK3.out.f
      show Exit.then _ _ Exit.normal _ (wr.drew.setRow gs (lay cur (k * 82 + 40) (boolL c.sh)))
      rw [← hw3]
      clear hT0 hT3 hw3 hkb2 hkb3 hrg hcur hfit d3 d0 HKB hkC
      have hkC3 : (CC.set k { c with ev := E, cl := c.sh })[k]? = some { c with ev := E, cl := c.sh } := hkC2
      clear hkC2
      go_upto_region 8 with fail
      have cm : w3.cell? ⟨gs, k * 82 + 81, none⟩ = some (.int .i64 c.saved) := HK3.out.o.cell_at k _ hkC3 81 _ (by show (SrcC.cells _)[81]? = _; rw [SrcC.get _ _ (by omega), SrcC.at_saved]; try rfl)
      have cd : ∃ u, w3.cell? ⟨gs, k * 82 + 80, none⟩ = some u := ⟨_, HK3.out.o.cell_at k _ hkC3 80 _ (by show (SrcC.cells _)[80]? = _; rw [SrcC.get _ _ (by omega)])⟩
      obtain ⟨u, cd⟩ := cd
      have fd : w3.frozen? ⟨gs, k * 82 + 80, none⟩ = false := by obtain ⟨cur, hcur⟩ := HK3.out.o.blk; exact frozen_of_row _ _ _ _ _ hcur
      have hkb4 := HK3.out.set tgs k _ { c with ev := E, cl := c.sh, mark := c.saved } hkC3 80 (by omega) (.int .i64 c.saved) (by rw [SrcC.at_mark]) (fun i hi ho => SrcC.at_out _ _ i hi rfl rfl (.inr (.inr rfl)) (.inr (.inr rfl)) (.inl ho) (.inr rfl))
      rw [List.set_set] at hkb4
      have hT0 : (fun w' : World => w'.cell? ⟨bk, 3, none⟩ = some (.slice (some ⟨gs, 0, none⟩) N cs) ∧ w'.cell? ⟨gs, k * 82 + 81, none⟩ = some (.int .i64 c.saved)) w3.drew := ⟨f3, cm⟩
      refine wp_region_held (S := fun w' : World => w'.cell? ⟨bk, 3, none⟩ = some (.slice (some ⟨gs, 0, none⟩) N cs) ∧ w'.cell? ⟨gs, k * 82 + 81, none⟩ = some (.int .i64 c.saved)) mixed ?_
      refine wpAnyH_take (i := 0) (v := (.pointer (some ⟨bk, 0, none⟩))) rfl (by kernel_rfl) (by kernel_rfl) (by kernel_rfl) (fun _ _ _ h => h) (Or.inl ⟨by rfl, fun wx hx => by go_simp⟩) hT0 ?_
      try dsimp only
      try simp only [Act.put, List.getElem_toArray, List.getElem_cons_succ, List.getElem_cons_zero, List.setIfInBounds_toArray, List.set_cons_zero, List.set_cons_succ]
      refine wpAnyH_take (i := 1) (v := (.pointer (some ⟨bk, 0, none⟩))) rfl (by kernel_rfl) (by kernel_rfl) (by kernel_rfl) (fun _ _ _ h => h) (Or.inl ⟨by rfl, fun wx hx => by go_simp⟩) hT0 ?_
      try dsimp only
      try simp only [Act.put, List.getElem_toArray, List.getElem_cons_succ, List.getElem_cons_zero, List.setIfInBounds_toArray, List.set_cons_zero, List.set_cons_succ]
      refine wpAnyH_take (i := 2) (v := (.pointer (some ⟨bk, 3, none⟩))) rfl (by kernel_rfl) (by kernel_rfl) (by kernel_rfl) (fun _ _ _ h => h) (Or.inl ⟨by rfl, fun wx hx => by go_simp⟩) hT0 ?_
      try dsimp only
      try simp only [Act.put, List.getElem_toArray, List.getElem_cons_succ, List.getElem_cons_zero, List.setIfInBounds_toArray, List.set_cons_zero, List.set_cons_succ]
      refine wpAnyH_take (i := 3) (v := (.slice (some ⟨gs, 0, none⟩) N cs)) rfl (by kernel_rfl) (by kernel_rfl) (by kernel_rfl) (fun _ _ _ h => h) (Or.inl ⟨by rfl, fun wx hx => by have hx1 := hx.1; go_simp⟩) hT0 ?_
      try dsimp only
      try simp only [Act.put, List.getElem_toArray, List.getElem_cons_succ, List.getElem_cons_zero, List.setIfInBounds_toArray, List.set_cons_zero, List.set_cons_succ]
      refine wpAnyH_take (i := 4) (v := (.int .i64 k)) rfl (by kernel_rfl) (by kernel_rfl) (by kernel_rfl) (fun _ _ _ h => h) (Or.inl ⟨by rfl, fun wx hx => by go_simp⟩) hT0 ?_
      try dsimp only
      try simp only [Act.put, List.getElem_toArray, List.getElem_cons_succ, List.getElem_cons_zero, List.setIfInBounds_toArray, List.set_cons_zero, List.set_cons_succ]
      refine wpAnyH_take (i := 5) (v := (.pointer (some ⟨bk, 0, none⟩))) rfl (by kernel_rfl) (by kernel_rfl) (by kernel_rfl) (fun _ _ _ h => h) (Or.inl ⟨by rfl, fun wx hx => by go_simp⟩) hT0 ?_
      try dsimp only
      try simp only [Act.put, List.getElem_toArray, List.getElem_cons_succ, List.getElem_cons_zero, List.setIfInBounds_toArray, List.set_cons_zero, List.set_cons_succ]
      refine wpAnyH_take (i := 6) (v := (.pointer (some ⟨bk, 0, none⟩))) rfl (by kernel_rfl) (by kernel_rfl) (by kernel_rfl) (fun _ _ _ h => h) (Or.inl ⟨by rfl, fun wx hx => by go_simp⟩) hT0 ?_
      try dsimp only
      try simp only [Act.put, List.getElem_toArray, List.getElem_cons_succ, List.getElem_cons_zero, List.setIfInBounds_toArray, List.set_cons_zero, List.set_cons_succ]
      refine wpAnyH_take (i := 7) (v := (.pointer (some ⟨bk, 3, none⟩))) rfl (by kernel_rfl) (by kernel_rfl) (by kernel_rfl) (fun _ _ _ h => h) (Or.inl ⟨by rfl, fun wx hx => by go_simp⟩) hT0 ?_
      try dsimp only
      try simp only [Act.put, List.getElem_toArray, List.getElem_cons_succ, List.getElem_cons_zero, List.setIfInBounds_toArray, List.set_cons_zero, List.set_cons_succ]
      refine wpAnyH_take (i := 8) (v := (.slice (some ⟨gs, 0, none⟩) N cs)) rfl (by kernel_rfl) (by kernel_rfl) (by kernel_rfl) (fun _ _ _ h => h) (Or.inl ⟨by rfl, fun wx hx => by have hx1 := hx.1; go_simp⟩) hT0 ?_
      try dsimp only
      try simp only [Act.put, List.getElem_toArray, List.getElem_cons_succ, List.getElem_cons_zero, List.setIfInBounds_toArray, List.set_cons_zero, List.set_cons_succ]
      refine wpAnyH_take (i := 9) (v := (.int .i64 k)) rfl (by kernel_rfl) (by kernel_rfl) (by kernel_rfl) (fun _ _ _ h => h) (Or.inl ⟨by rfl, fun wx hx => by go_simp⟩) hT0 ?_
      try dsimp only
      try simp only [Act.put, List.getElem_toArray, List.getElem_cons_succ, List.getElem_cons_zero, List.setIfInBounds_toArray, List.set_cons_zero, List.set_cons_succ]
      refine wpAnyH_take (i := 10) (v := (.pointer (some ⟨gs, k * 82, none⟩))) rfl (by kernel_rfl) (by kernel_rfl) (by kernel_rfl) (fun _ _ _ h => h) (Or.inl ⟨by rfl, fun wx hx => by go_simp⟩) hT0 ?_
      try dsimp only
      try simp only [Act.put, List.getElem_toArray, List.getElem_cons_succ, List.getElem_cons_zero, List.setIfInBounds_toArray, List.set_cons_zero, List.set_cons_succ]
      refine wpAnyH_take (i := 11) (v := (.pointer (some ⟨gs, k * 82 + 81, none⟩))) rfl (by kernel_rfl) (by kernel_rfl) (by kernel_rfl) (fun _ _ _ h => h) (Or.inl ⟨by rfl, fun wx hx => by go_simp⟩) hT0 ?_
      try dsimp only
      try simp only [Act.put, List.getElem_toArray, List.getElem_cons_succ, List.getElem_cons_zero, List.setIfInBounds_toArray, List.set_cons_zero, List.set_cons_succ]
      refine wpAnyH_take (i := 12) (v := (.int .i64 c.saved)) rfl (by kernel_rfl) (by kernel_rfl) (by kernel_rfl) (fun _ _ _ h => h) (Or.inl ⟨by rfl, fun wx hx => by have hx1 := hx.2; go_simp⟩) hT0 ?_
      try dsimp only
      try simp only [Act.put, List.getElem_toArray, List.getElem_cons_succ, List.getElem_cons_zero, List.setIfInBounds_toArray, List.set_cons_zero, List.set_cons_succ]
      refine wpAnyH_take (i := 13) (v := (.pointer (some ⟨gs, k * 82, none⟩))) rfl (by kernel_rfl) (by kernel_rfl) (by kernel_rfl) (fun _ _ _ h => h) (Or.inl ⟨by rfl, fun wx hx => by go_simp⟩) hT0 ?_
      try dsimp only
      try simp only [Act.put, List.getElem_toArray, List.getElem_cons_succ, List.getElem_cons_zero, List.setIfInBounds_toArray, List.set_cons_zero, List.set_cons_succ]
      refine wpAnyH_take (i := 14) (v := (.pointer (some ⟨gs, k * 82 + 80, none⟩))) rfl (by kernel_rfl) (by kernel_rfl) (by kernel_rfl) (fun _ _ _ h => h) (Or.inl ⟨by rfl, fun wx hx => by go_simp⟩) hT0 ?_
      try dsimp only
      try simp only [Act.put, List.getElem_toArray, List.getElem_cons_succ, List.getElem_cons_zero, List.setIfInBounds_toArray, List.set_cons_zero, List.set_cons_succ]
      refine wpAnyH_all (rs := [15]) (by kernel_rfl) (by simp) ?_
      intro jj hjj
      simp only [List.mem_cons, List.not_mem_nil, or_false] at hjj
      subst hjj
      have hT3 : (fun w' : World => w'.cell? ⟨bk, 3, none⟩ = some (.slice (some ⟨gs, 0, none⟩) N cs) ∧ w'.cell? ⟨gs, k * 82 + 81, none⟩ = some (.int .i64 c.saved)) (w3.drew.setCell ⟨gs, k * 82 + 80, none⟩ (.int .i64 c.saved)) := ⟨cell_set hbg hT0.1, cell_set_off (by omega) hT0.2⟩
      refine wpOp_of_wp rfl rfl (hideK ?_)
      intro K' hK'
      go_simp
      rw [hK'.out]
      refine ⟨hT3, ?_⟩
      try dsimp only
      try simp only [Act.put, List.getElem_toArray, List.getElem_cons_succ, List.getElem_cons_zero, List.setIfInBounds_toArray, List.set_cons_zero, List.set_cons_succ]
      refine wpAnyH_done (by kernel_rfl) ?_ _
      obtain ⟨w5, hw5⟩ : ∃ w5, w5 = w3.drew.setCell ⟨gs, k * 82 + 80, none⟩ (.int .i64 c.saved) := ⟨_, rfl⟩
      have HK5 : Hid (KB w w5 own B0 gs N cs (CC.set k { c with ev := E, cl := c.sh, mark := c.saved })) := by unfold Hid; rw [hw5]; exact hkb4.below (w' := w3.drew.setCell ⟨gs, k * 82 + 80, none⟩ (.int .i64 c.saved)) ⟨rfl, rfl, rfl, Nat.le_refl _, fun _ _ => rfl⟩
      have HW5 : Hid (Fr own1 (fun t => t = .wd 1) wr w5) := by unfold Hid; rw [hw5]; exact HW3.out.trans (Same.refl _ _) ⟨rfl, rfl, rfl, by simp, fun i hi hf hn => heap_setCell_other _ _ _ _ (by show i ≠ gs; intro e; exact hn (by rw [e]; exact HTG.out))⟩
      have f50 := (HRUN.out w5 HK5.out.f).2
      show Exit.then _ _ Exit.normal _ (w3.drew.setCell ⟨gs, k * 82 + 80, none⟩ (.int .i64 c.saved))
      rw [← hw5]
      clear hT0 hT3 hw5 hkb4 cm cd fd f3 f0 HK3 hkC3
      have hE5 : ∀ v : Nat, v < 20 → Own clE w5 B0 110 (E v).val ((evK d.kev v).map evOf) := fun v hv => by
        have h1 := HKC.out.ev v hv
        rw [if_pos hv] at h1
        exact h1.fr HW5.out (HKC.out.te v hv) (by simp) (by simp; omega)
      have HE5 : Hid (∀ v : Nat, v < 20 → Own clE w5 B0 110 (E v).val ((evK d.kev v).map evOf)) := hE5
      have HST5 : Hid (SR w5 own1 B0 bs t wid D) := HR.out.chg HG.out.st HK5.out.f HKC.out.sm (fun i => by simp)
      clear hE5
      go_wp2_with (go_at_call 41; refine (HQ.out.crash w5 own1 B0 bs t wid D HST5.out (HG.out.di.mono' (by omega)) (Nat.le_trans HG.out.b0 HK5.out.f.size) k ⟨by omega, by omega⟩).mono ?_; rintro e w6 ⟨rfl, own6, hst, hsm, hfr⟩; rw [HE.out]; rw [HD.out] at hst; have HZ : Hid (SR w6 own6 B0 bs t wid (D.set k { d with lev := d.kev, lcl := d.kcl, lmk := d.kmk, items := d.saved }) ∧ Same w5 own1 own6 ∧ Fr own1 isSt w5 w6) := ⟨hst, hsm, hfr⟩; clear hst hsm hfr)
      go_ret
      have hdi := HG.out.di k d HCD.out.2
      exact ⟨rfl, KN.tt HD.out <| HG.out.fin' k c { c with ev := E, cl := c.sh, mark := c.saved } d { d with lev := d.kev, lcl := d.kcl, lmk := d.kmk, items := d.saved } HCD.out.1 HCD.out.2 (by rw [HN.out]; exact HK5.out) HKC.out.sm HZ.out.1 HZ.out.2.1 HZ.out.2.2 HE5.out HKC.out.te HRP.out.1.kept HRP.out.1.sh HRP.out.1.sh HRP.out.1.saved HRP.out.1.saved HI.out ⟨hdi.2.1, hdi.2.1, hdi.2.2.2, hdi.2.2.2⟩ ⟨HRP.out.2.kev, HRP.out.2.kev, HRP.out.2.km0, HRP.out.2.km1, HRP.out.2.km0, HRP.out.2.km1⟩⟩
end Go.Proofs.Ytpglbakcjihohab

/-! The program's Deliver once more, for a packet whose items lie anywhere but in the store; the contract of it. -/
namespace Go.Proofs.Ytpglbakcjihohab
open Go.RowKit
set_option maxRecDepth 100000

/-- Deliver of a packet whose items lie outside the store. -/
structure PJ2 (SR : SRT) : Prop where
  deliver : ∀ (w : World) (own : Ghost) (B0 bs : Nat) (t : List Int) (wid : Int) (D : List Nd), SR w own B0 bs t wid D → DI D 100000000 → B0 ≤ w.heap.size → ∀ (n fr : Int) (l : List It) (p : Option Addr) (m c : Nat), fitsI n → fitsI fr → l.length = m → RowsAt clIt w p l → AllOkI l → m ≤ 1000000000 → (∀ b off, p = some ⟨b, off, none⟩ → own b ≠ .free ∧ ∀ i, own b ≠ .st i) →
    Calls Try.prog 9 #[.pointer (some ⟨bs, 0, none⟩), .int .i64 n, .agg #[.int .i64 fr, .slice p m c]] w fun e w' => e = .returned (.int .i64 (delE t n fr l)) ∧ Chg SR w own B0 bs t wid (delD t D n fr l) w'
set_option maxHeartbeats 4000000 in
theorem sDeliver2_any (w : World) (own : Ghost) (B0 bs : Nat) (t : List Int) (wid : Int) (D : List Nd) (h : SR w own B0 bs t wid D) (hd : DI D 100000000) (hB0 : B0 ≤ w.heap.size) (n fr : Int) (l : List It) (p : Option Addr) (m c : Nat) (hm : l.length = m) (hr : RowsAt clIt w p l) (hok : AllOkI l) (hml : m ≤ 1000000000) (hp : ∀ b off, p = some ⟨b, off, none⟩ → own b ≠ .free ∧ ∀ i, own b ≠ .st i) :
    Calls Try.prog 9 #[.pointer (some ⟨bs, 0, none⟩), .int .i64 n, .agg #[.int .i64 fr, .slice p m c]] w fun e w' => e = .returned (.int .i64 (delE t n fr l)) ∧ Chg SR w own B0 bs t wid (delD t D n fr l) w' := by
  obtain ⟨V, A, h⟩ := h
  have h8 := h.T.le
  have HS : Hid (SRep w own B0 bs t wid D V A) := h
  have HSAME : Hid (delE t n fr l ≠ 0 → ∀ w', Below w.heap.size w w' → Chg SR w own B0 bs t wid (delD t D n fr l) w') := fun he w' hb => ⟨own, by unfold delD; rw [if_neg he]; exact ⟨V, A, h.below hb⟩, Same.refl _ _, Fr.of_below hb⟩
  have HT : Hid (Tree t) := h.T
  have HRW : Hid (RowsAt clIt w p l) := hr
  obtain ⟨bx, hbx⟩ : ∃ bx, bx = w.heap.size := ⟨_, rfl⟩
  obtain ⟨w1, hw1⟩ : ∃ w1, w1 = w.alloc (.cells #[.int .i64 fr, .slice p m c] 34) := ⟨_, rfl⟩
  have HB1 : Hid (Below w.heap.size w w1) := by unfold Hid; rw [hw1]; exact below_alloc _ _
  have G1 : Hid (w1.heap[bx]? = some (.cells #[.int .i64 fr, .slice p m c] 34)) := by unfold Hid; rw [hw1, hbx]; exact heap_alloc_new _ _
  have HP1 : Hid (PTree w1 bs t) := h.tree.below HB1.out
  have HBX : Hid (bx = w.heap.size) := hbx
  clear hr
  by_cases h1 : isNd t n = true
  · have hn0 : 0 ≤ n := by simp only [isNd, decide_eq_true_eq] at h1; omega
    obtain ⟨fb, hfb⟩ : ∃ fb, fair t n fr l = fb := ⟨_, rfl⟩
    have HFB : Hid (fair t n fr l = fb) := hfb
    cases fb with
    | true =>
      obtain ⟨k, d, rfl, hk, hk8, hx⟩ := h.at n h1
      have HE : Hid (delE t k fr l = 0) := by unfold Hid delE; rw [if_pos h1, if_pos hfb]
      have HD : Hid (delD t D k fr l = D.set k { d with items := l.foldl jnd d.items }) := by unfold Hid delD; rw [if_pos HE.out]; simp [hx]
      have HIN : Hid (AllIn l) := fair_in h8 hfb hok
      have HGD : Hid (Good d.items) := (h.ev k d hx).2.2.1
      have HLF : Hid (isLf t k = false) := by
        have hf := fair_iff.1 hfb
        have hfn := hf.1
        simp only [isNd, decide_eq_true_eq] at hfn
        have hlt : fr.toNat < t.length := by omega
        have h2 := hf.2.1
        unfold Hid isLf
        simp only [decide_eq_false_iff_not, Classical.not_not]
        rw [← h2]
        simp only [List.getD, List.getElem?_eq_getElem hlt, Option.getD_some]
        exact List.getElem_mem _
      obtain ⟨own1, hown1⟩ : ∃ own1 : Ghost, own1 = fun j => if j = bx then .arg else own j := ⟨_, rfl⟩
      have HOW : Hid (∀ j, j ≠ bx → own1 j = own j) := fun j hj => by rw [hown1]; exact if_neg hj
      have HOX : Hid (own1 bx = .arg) := by unfold Hid; rw [hown1]; exact if_pos rfl
      have HSM : Hid (Same w own own1) := fun j hj _ => HOW.out j (by have := HBX.out; omega)
      have HS1 : Hid (SR w1 own1 B0 bs t wid D) := SR_chg (S := fun _ => False) ⟨V, A, h⟩ (Fr.of_below HB1.out) HSM.out fun _ h => h
      have HPA : Hid (∀ b off, p = some ⟨b, off, none⟩ → b < w.heap.size → own1 b ≠ .free ∧ ∀ i, own1 b ≠ .st i) := fun b off e hb => by rw [HOW.out b (by have := HBX.out; omega)]; exact hp b off e
      have HX : Hid (D[k]? = some d) := hx
      have HDI : Hid (DI D 100000000) := hd
      have hkD : k < D.length := (List.getElem?_eq_some_iff.1 hx).1
      have k0 : (0 : Int) ≤ (k : Int) := by omega
      have k1 : (k : Int) < 8 := by omega
      clear h hok hp hown1 hx hfb HSAME hd
      go_enter Try.func9, Try.ntmps9
      go_upto_region 1 with fail
      rw [← hw1, ← hbx]
      clear hw1 hbx
      go_wp2_with (first | (go_at_call 26; refine (has_any _ _ t HP1.out _).mono ?_; rintro e w2 ⟨rfl, hw2⟩; have hw2 := hw2.symm; subst hw2; rw [h1]) | (refine load_pk rfl _ rfl bx rfl _ _ (by exact G1.out) ?_) | (go_at_call 27; refine (mayCome_any _ _ t HP1.out HT.out _ _ hn0 l _ _ _ hm (HRW.out.below HB1.out) hml).mono ?_; rintro e w2 ⟨rfl, hb2⟩; rw [HFB.out]))
      have HDS : Hid (DS w1 w2 own1 B0 bs bx t wid D k d fr p m c l 0) := ⟨⟨own1, by rw [List.take_zero, set_back HX.out]; exact SR_chg (S := fun _ => False) HS1.out (Fr.of_below hb2) (Same.refl _ _) fun _ h => h, Same.refl _ _, Fr.of_below hb2⟩, keep hb2 G1.out, (HRW.out.below HB1.out).below hb2⟩
      clear hb2
      go_loopw [7] (fun i wr => ∃ j : Nat, j ≤ m ∧ i = .int .i64 j ∧ DS w1 wr own1 B0 bs bx t wid D k d fr p m c l j) (fun i _ => m - (intOf i).toNat)
      case atStart => exact ⟨0, by omega, rfl, HDS.out⟩
      case round =>
        clear HDS
        obtain ⟨j, hj, rfl, ds⟩ := hrel
        have HDJ : Hid (DS w1 wr own1 B0 bs bx t wid D k d fr p m c l j) := ds
        have cb : wr.cell? ⟨bx, 1, none⟩ = some (.slice p m c) := by rw [cell_of_row _ _ _ _ _ _ ds.box]; rfl
        by_cases hlj : j < m
        · obtain ⟨x, hx⟩ : ∃ x, l[j]? = some x := ⟨_, List.getElem?_eq_getElem (by omega)⟩
          obtain ⟨b, off, rfl, hlt, hcx⟩ := ds.rows.pos j (by omega)
          obtain ⟨⟨own2, ⟨V2, A2, S2⟩, sm2, fr2⟩, box, rows⟩ := ds
          obtain ⟨DJ, hDJ⟩ : ∃ DJ, DJ = (l.take j).foldl jnd d.items := ⟨_, rfl⟩
          rw [← hDJ] at S2
          have hset : (D.set k { d with items := DJ })[k]? = some { d with items := DJ } := List.getElem?_set_self hkD
          have hLQ : LQ t (D.set k { d with items := DJ }) k = DJ := by rw [LQ_live t _ k _ hk8 hset]; unfold lvg; rw [if_neg (by rw [HLF.out]; simp)]
          have hGj : Good DJ := by rw [hDJ]; exact HGD.out.dlv (HIN.out.take j)
          have HGJ : Hid (Good (jnd DJ x)) := hGj.jnd (HIN.out x (List.mem_of_getElem? hx))
          have HSR : Hid (Srt DJ) := hGj.srt
          have hlen : DJ.length ≤ 1000 := by have := hGj.len; omega
          have HS2 : Hid (SRep wr own2 B0 bs t wid (D.set k { d with items := DJ }) V2 A2 ∧ Same w1 own1 own2 ∧ Fr own1 isSt w1 wr) := ⟨S2, sm2, fr2⟩
          have HLQ : Hid (LQ t (D.set k { d with items := DJ }) k = DJ) := hLQ
          have HSET : Hid ((D.set k { d with items := DJ })[k]? = some { d with items := DJ }) := hset
          have HDE : Hid (DJ = (l.take j).foldl jnd d.items) := hDJ
          have HBOX : Hid (wr.heap[bx]? = some (.cells #[.int .i64 fr, .slice (some ⟨b, off, none⟩) m c] 34)) := box
          have HROWS : Hid (RowsAt clIt wr (some ⟨b, off, none⟩) l) := rows
          have rg : wr.rangeAt b (off + j * 32) x.cells := hcx j x hx
          have hlne : l ≠ [] := fun e => by rw [e] at hm; simp at hm; omega
          have hbw : b < w.heap.size := by
            rcases HRW.out with e | ⟨b', off', e, hb', _⟩
            · exact absurd e hlne
            · cases e; exact hb'
          have HLX : Hid (l[j]? = some x) := hx
          obtain ⟨X, hX⟩ : ∃ X, IsIt X x := ⟨_, isIt_of x⟩
          have HIX : Hid (IsIt X x) := hX
          have j0 : (0 : Int) ≤ (j : Int) := by omega
          have j1 : (j : Int) < (m : Int) := by omega
          have HSL : Hid (A2[10 + k * 2]? = some (.slice (V2 k).p (V2 k).n (V2 k).c) ∧ A2[10 + k * 2 + 1]? = some (.int .i64 (MQ (D.set k { d with items := DJ }) k)) ∧ Own clIt wr B0 80 (.slice (V2 k).p (V2 k).n (V2 k).c) DJ ∧ (Value.slice (V2 k).p (V2 k).n (V2 k).c).ownBlock ≠ some bs) := ⟨S2.is.sl k (by omega), S2.is.mrk k (by omega), by have := S2.ow k (by omega); rw [hLQ] at this; exact this, S2.ne k (by omega)⟩
          clear S2 sm2 fr2 box rows hset hLQ hGj hDJ hcx hx HDJ hX
          go_upto_region 8 with fail
          have hT0 : (fun w' : World => w'.cell? ⟨bx, 1, none⟩ = some (.slice (some ⟨b, off, none⟩) m c) ∧ w'.rangeAt b (off + j * 32) x.cells) wr.drew := ⟨cb, rg⟩
          refine wp_region_held (S := fun w' : World => w'.cell? ⟨bx, 1, none⟩ = some (.slice (some ⟨b, off, none⟩) m c) ∧ w'.rangeAt b (off + j * 32) x.cells) mixed ?_
          refine wpAnyH_take (i := 0) (v := (.pointer (some ⟨bs, 0, none⟩))) rfl (by kernel_rfl) (by kernel_rfl) (by kernel_rfl) (fun _ _ _ h => h) (Or.inl ⟨by rfl, fun wx hx => by go_simp⟩) hT0 ?_
          try dsimp only
          try simp only [Act.put, List.getElem_toArray, List.getElem_cons_succ, List.getElem_cons_zero, List.setIfInBounds_toArray, List.set_cons_zero, List.set_cons_succ]
          refine wpAnyH_take (i := 1) (v := (.int .i64 k)) rfl (by kernel_rfl) (by kernel_rfl) (by kernel_rfl) (fun _ _ _ h => h) (Or.inl ⟨by rfl, fun wx hx => by go_simp⟩) hT0 ?_
          try dsimp only
          try simp only [Act.put, List.getElem_toArray, List.getElem_cons_succ, List.getElem_cons_zero, List.setIfInBounds_toArray, List.set_cons_zero, List.set_cons_succ]
          refine wpAnyH_take (i := 2) (v := (.pointer (some ⟨bs, 0, none⟩))) rfl (by kernel_rfl) (by kernel_rfl) (by kernel_rfl) (fun _ _ _ h => h) (Or.inl ⟨by rfl, fun wx hx => by go_simp⟩) hT0 ?_
          try dsimp only
          try simp only [Act.put, List.getElem_toArray, List.getElem_cons_succ, List.getElem_cons_zero, List.setIfInBounds_toArray, List.set_cons_zero, List.set_cons_succ]
          refine wpAnyH_take (i := 3) (v := (.pointer (some ⟨bs, 10, none⟩))) rfl (by kernel_rfl) (by kernel_rfl) (by kernel_rfl) (fun _ _ _ h => h) (Or.inl ⟨by rfl, fun wx hx => by go_simp⟩) hT0 ?_
          try dsimp only
          try simp only [Act.put, List.getElem_toArray, List.getElem_cons_succ, List.getElem_cons_zero, List.setIfInBounds_toArray, List.set_cons_zero, List.set_cons_succ]
          refine wpAnyH_take (i := 4) (v := (.pointer (some ⟨bs, 10 + k * 2, none⟩))) rfl (by kernel_rfl) (by kernel_rfl) (by kernel_rfl) (fun _ _ _ h => h) (Or.inl ⟨by rfl, fun wx hx => by go_simp⟩) hT0 ?_
          try dsimp only
          try simp only [Act.put, List.getElem_toArray, List.getElem_cons_succ, List.getElem_cons_zero, List.setIfInBounds_toArray, List.set_cons_zero, List.set_cons_succ]
          refine wpAnyH_take (i := 5) (v := (.pointer (some ⟨bx, 1, none⟩))) rfl (by kernel_rfl) (by kernel_rfl) (by kernel_rfl) (fun _ _ _ h => h) (Or.inl ⟨by rfl, fun wx hx => by go_simp⟩) hT0 ?_
          try dsimp only
          try simp only [Act.put, List.getElem_toArray, List.getElem_cons_succ, List.getElem_cons_zero, List.setIfInBounds_toArray, List.set_cons_zero, List.set_cons_succ]
          refine wpAnyH_take (i := 6) (v := (.slice (some ⟨b, off, none⟩) m c)) rfl (by kernel_rfl) (by kernel_rfl) (by kernel_rfl) (fun _ _ _ h => h) (Or.inl ⟨by rfl, fun wx hx => by have hx1 := hx.1; go_simp⟩) hT0 ?_
          try dsimp only
          try simp only [Act.put, List.getElem_toArray, List.getElem_cons_succ, List.getElem_cons_zero, List.setIfInBounds_toArray, List.set_cons_zero, List.set_cons_succ]
          refine wpAnyH_take (i := 7) (v := (.int .i64 j)) rfl (by kernel_rfl) (by kernel_rfl) (by kernel_rfl) (fun _ _ _ h => h) (Or.inl ⟨by rfl, fun wx hx => by go_simp⟩) hT0 ?_
          try dsimp only
          try simp only [Act.put, List.getElem_toArray, List.getElem_cons_succ, List.getElem_cons_zero, List.setIfInBounds_toArray, List.set_cons_zero, List.set_cons_succ]
          refine wpAnyH_take (i := 8) (v := (.pointer (some ⟨b, off + j * 32, none⟩))) rfl (by kernel_rfl) (by kernel_rfl) (by kernel_rfl) (fun _ _ _ h => h) (Or.inl ⟨by rfl, fun wx hx => by go_simp⟩) hT0 ?_
          try dsimp only
          try simp only [Act.put, List.getElem_toArray, List.getElem_cons_succ, List.getElem_cons_zero, List.setIfInBounds_toArray, List.set_cons_zero, List.set_cons_succ]
          refine wpAnyH_take (i := 9) (v := (.agg X)) rfl (by kernel_rfl) (by kernel_rfl) (by kernel_rfl) (fun _ _ _ h => h) (yieldsIf_load_it_mid (by rfl) _ rfl _ _ rfl X _ HIX.out (fun wx hx => hx.2)) hT0 ?_
          try dsimp only
          try simp only [Act.put, List.getElem_toArray, List.getElem_cons_succ, List.getElem_cons_zero, List.setIfInBounds_toArray, List.set_cons_zero, List.set_cons_succ]
          refine wpAnyH_all (rs := [10]) (by kernel_rfl) (by simp) ?_
          intro jj hjj
          simp only [List.mem_cons, List.not_mem_nil, or_false] at hjj
          subst hjj
          refine wpOp_of_wp rfl rfl ?_
          go_simp
          refine (lTake_any wr.drew B0 bs (10 + k * 2) A2 _ (V2 k).p (V2 k).n (V2 k).c _ DJ x X HIX.out HS2.out.1.main HSL.out.1 HSL.out.2.1 (HSL.out.2.2.1.below below_drew) HSL.out.2.2.2 (Nat.le_trans hB0 (Nat.le_trans HB1.out.size HS2.out.2.2.size)) hlen).mono ?_
          rintro e w6 ⟨rfl, s6, ho6, pf6⟩
          replace pf6 : PF wr w6 bs (10 + k * 2) A2 77 (V2 k).val s6.val := PF.pre below_drew pf6
          rw [← jnd_jin x DJ HSR.out] at ho6
          have ch := HS2.out.1.took k _ hk8 HSET.out HLF.out x s6 pf6 HGJ.out ho6
          have ch1 := Chg.trans HS2.out.2.1 HS2.out.2.2 ch
          obtain ⟨own3, ss3, sm3, fr3⟩ := ch
          have nx : own2 bx ≠ .free ∧ ¬ isSt (own2 bx) := by
            rw [HS2.out.2.1 bx (lt_of_blk G1.out) (by rw [HOX.out]; simp), HOX.out]; exact ⟨by simp, fun ⟨i, e⟩ => by cases e⟩
          have hbw1 : b < w1.heap.size := Nat.lt_of_lt_of_le hbw HB1.out.size
          have hob := HPA.out b off rfl hbw
          have nb : own2 b ≠ .free ∧ ¬ isSt (own2 b) := by
            rw [HS2.out.2.1 b hbw1 hob.1]; exact ⟨hob.1, fun ⟨i, e⟩ => hob.2 i e⟩
          have gx6 : w6.heap[bx]? = some (.cells #[.int .i64 fr, .slice (some ⟨b, off, none⟩) m c] 34) := by rw [fr3.block bx (lt_of_blk HBOX.out) nx.1 nx.2]; exact HBOX.out
          have rw6 : RowsAt clIt w6 (some ⟨b, off, none⟩) l := HROWS.out.chg fr3.size fun b' off' e => by
            cases e; exact fr3.block b (Nat.lt_of_lt_of_le hbw1 HS2.out.2.2.size) nb.1 nb.2
          have hT1 : (fun w' : World => w'.cell? ⟨bx, 1, none⟩ = some (.slice (some ⟨b, off, none⟩) m c) ∧ w'.rangeAt b (off + j * 32) x.cells) w6 := ⟨by rw [cell_of_row _ _ _ _ _ _ gx6]; rfl, fun i u hu => by
            rw [World.cell?_of_block (w := wr) (fr3.block b (Nat.lt_of_lt_of_le hbw1 HS2.out.2.2.size) nb.1 nb.2)]; exact rg i u hu⟩
          refine ⟨hT1, ?_⟩
          try dsimp only
          try simp only [Act.put, List.getElem_toArray, List.getElem_cons_succ, List.getElem_cons_zero, List.setIfInBounds_toArray, List.set_cons_zero, List.set_cons_succ]
          refine wpAnyH_done (by kernel_rfl) ?_ _
          have Z : Hid (DS w1 w6 own1 B0 bs bx t wid D k d fr (some ⟨b, off, none⟩) m c l (j + 1)) := by
            refine ⟨?_, gx6, rw6⟩
            rw [dlv_take l d.items j x HLX.out, ← HDE.out]
            rw [List.set_set] at ch1
            exact ch1
          clear hT0 hT1 ho6 pf6 ch1 ss3 sm3 fr3 gx6 rw6 rg cb nx nb
          go_wp2
          go_roundw
          case rel => exact ⟨j + 1, by omega, by go_num, Z.out⟩
          case measure => simp [intOf]; omega
        · obtain rfl : j = m := by omega
          clear ds
          go_wp2
          go_ret
          obtain ⟨⟨own3, s3, sm3, fr3⟩, _, _⟩ := HDJ.out
          rw [List.take_of_length_le (by omega)] at s3
          refine ⟨by rw [HE.out]; rfl, own3, by rw [HD.out]; exact s3, fun i hi hf => ?_, ?_⟩
          · have e := HSM.out i hi hf
            rw [sm3 i (Nat.lt_of_lt_of_le hi HB1.out.size) (by rw [e]; exact hf), e]
          · exact Fr.trans (Fr.of_below HB1.out) HSM.out fr3
    | false =>
      have HE : Hid (delE t n fr l = 9) := by unfold Hid delE; rw [if_pos h1, if_neg (by rw [hfb]; simp)]
      clear h hok hp hd hfb
      go_enter Try.func9, Try.ntmps9
      go_upto_region 1 with fail
      rw [← hw1, ← hbx]
      clear hw1 hbx
      go_wp2_with (first | (go_at_call 26; refine (has_any _ _ t HP1.out _).mono ?_; rintro e w2 ⟨rfl, hw2⟩; have hw2 := hw2.symm; subst hw2; rw [h1]) | (refine load_pk rfl _ rfl bx rfl _ _ (by exact G1.out) ?_) | (go_at_call 27; refine (mayCome_any _ _ t HP1.out HT.out _ _ hn0 l _ _ _ hm (HRW.out.below HB1.out) hml).mono ?_; rintro e w2 ⟨rfl, hb2⟩; rw [HFB.out]))
      go_ret
      exact ⟨by rw [HE.out]; rfl, HSAME.out (by rw [HE.out]; decide) _ (bnext HB1.out hb2)⟩
  · have h1' : isNd t n = false := by simpa using h1
    have HE : Hid (delE t n fr l = 2) := by unfold Hid delE; rw [if_neg h1]
    clear h hok hp hd
    go_enter Try.func9, Try.ntmps9
    go_upto_region 1 with fail
    rw [← hw1, ← hbx]
    clear hw1 hbx
    go_wp2_with (go_at_call 26; refine (has_any _ _ t HP1.out _).mono ?_; rintro e w2 ⟨rfl, hw2⟩; have hw2 := hw2.symm; subst hw2; rw [h1'])
    go_ret
    exact ⟨by rw [HE.out]; rfl, HSAME.out (by rw [HE.out]; decide) _ HB1.out⟩
theorem sr_pj2 : PJ2 SR where
  deliver := fun w own B0 bs t wid D h hd hB n fr l p m c _ _ hm hr hok hml hp => sDeliver2_any w own B0 bs t wid D h hd hB n fr l p m c hm hr hok hml hp
end Go.Proofs.Ytpglbakcjihohab

/-! A run's node sends; a packet comes. -/
namespace Go.Proofs.Ytpglbakcjihohab
open Go.RowKit
set_option maxRecDepth 100000

theorem KD.laid {SR : SRT} (R : PR SR) {w w1 w2 : World} {own : Ghost} {B0 bk bs : Nat} {t : List Int} {wid : Int} {m : Nat} {D : List Nd} {vt vs vl : Sl} {C : List SrcC} {PK : List Pk} {A : List (Int × List It)} (g : KD SR w own B0 bk bs t wid m D vt vs vl C PK A) (hb1 : Below w.heap.size w w1) (x : Pk) (p : Int × List It) (hx : PkIs w own x p) (hinv : Inv t D (A ++ [p])) (s : Sl) (o1 : Own clPk w2 B0 34 s.val (PK ++ [x])) (g1 : w1.grownBy w2 vl.val.ownBlock) (t1 : s.val.ownBlock = vl.val.ownBlock ∨ s.val.ownBlock = some w1.heap.size) :
    KN SR B0 bk bs t wid (m + 1) D (A ++ [p]) w own (w2.setCell ⟨bk, 4, none⟩ s.val) := by
  have hs1 := hb1.size
  have hs2 := g1.size
  have hbk := lt_of_blk g.run
  have nv : vl.val.ownBlock ≠ some bk := fun e => by have := g.tl bk e; rw [g.gm] at this; simp at this
  have ns : s.val.ownBlock ≠ some bk := fun e => by
    rcases t1 with a | a
    · exact nv (a ▸ e)
    · rw [a] at e; have := Option.some.inj e; omega
  have gbk : w2.heap[bk]? = w.heap[bk]? := by rw [g1.block bk (by omega) (fun e => nv e.symm), hb1.block bk hbk]
  let own' : Ghost := fun k => if s.val.ownBlock = some k then .ld else own k
  have same : Same w own own' := fun k hk hf => by
    by_cases e : s.val.ownBlock = some k
    · simp only [own', if_pos e]
      rcases t1 with a | a
      · exact (g.tl k (a ▸ e)).symm
      · rw [a] at e; have := Option.some.inj e; omega
    · simp only [own', if_neg e]
  have f : Fr own (fun t => t = .gm ∨ t = .ld) w (w2.setCell ⟨bk, 4, none⟩ s.val) := by
    refine ⟨g1.os.trans hb1.os, g1.tape.trans hb1.tape, g1.output.trans hb1.output, by simp; omega, fun k hk hf hn => ?_⟩
    have n1 : k ≠ bk := fun e => hn (by rw [e, g.gm]; exact .inl rfl)
    rw [heap_setCell_other _ _ _ _ (by show k ≠ bk; exact n1), g1.block k (by omega) (fun e => hn (.inr (g.tl k e.symm))), hb1.block k hk]
  have gg : (w2.setCell ⟨bk, 4, none⟩ s.val).heap[bk]? = some (.cells #[.pointer (some ⟨bs, 0, none⟩), vt.val, .int .i64 wid, vs.val, s.val] 31) := by
    rw [heap_setCell_same _ _ _ _ _ _ (gbk.trans g.run)]; rfl
  refine ⟨own', ⟨vt, vs, s, C, PK ++ [x], g.T, g.wid0, g.wid1, gg, ?_, Nat.le_trans g.b0 f.size, R.chg g.st f same (fun i => by simp), g.tr.fr f g.tt (by simp) (by simp), g.tt.own same g.tr (by simp), g.so.fr f g.ts (by simp) (by simp), g.ts.own same g.so (by simp), g.lc, fun k c d hc hd => (g.rep k c d hc hd).chg f same (fun v _ => by simp), ?_, fun k hk => if_pos hk, by simp [g.la], fun i y q hy hq => ?_, hinv, g.di.mono' (by omega), g.nb, by have := g.lp; simp; omega⟩, same, f.mono fun t ht => by rcases ht with rfl | rfl <;> simp [notA]⟩
  · rw [same bk hbk (by rw [g.gm]; simp)]; exact g.gm
  · exact o1.chg fun k hk => heap_setCell_other _ _ _ _ (by show k ≠ bk; intro e; exact ns (by rw [hk, e]))
  · rcases Nat.lt_or_ge i PK.length with hi | hi
    · rw [List.getElem?_append_left hi] at hy
      rw [List.getElem?_append_left (by rw [g.la]; exact hi)] at hq
      exact (g.pk i y q hy hq).chg f same (by simp)
    · rw [List.getElem?_append_right hi] at hy
      rw [List.getElem?_append_right (by rw [g.la]; exact hi), g.la] at hq
      have h0 : i - PK.length = 0 := by
        have := (List.getElem?_eq_some_iff.1 hy).1
        simp at this; omega
      rw [h0] at hy hq
      simp at hy hq
      subst hy hq
      exact hx.chg f same (by simp)
section
variable {ops : Array Oper} {i : Nat} {o : Oper} {a : Act} {w : World} {Q : Exit → Act → World → Prop} {K : Act → World → Prop}
theorem wpOp_build1_pk (hi : ops[i]? = some o) (hg : o.guard = none) (x : Operand) (ho : o.op = .buildSlice 27 1 #[(0, x)]) (e : Pk) (hx : a.eval x = .agg #[.int .i64 e.fr, .slice e.s.p e.s.n e.s.c])
    (h : RowsAt clPk (w.alloc (.cells (flat clPk [e]).toArray 34)) (some ⟨w.heap.size, 0, none⟩) [e] → K (a.put o.dst (.slice (some ⟨w.heap.size, 0, none⟩) 1 1)) (w.alloc (.cells (flat clPk [e]).toArray 34))) : wpOp Try.prog ops Q i K a w :=
  wpOp_build1_cl slPk hi hg x ho e _ hx rfl (by rw [Pk.clsize]; decide) h
theorem wpOp_append_pk (hi : ops[i]? = some o) (hg : o.guard = none) (s x : Operand) (ho : o.op = .call { callee := .builtin .append, args := #[s, x], argTypes := #[27, 27] }) (base : Nat) (v : Value) (l : List Pk) (hs : a.eval s = v) (hown : Own clPk w base 34 v l)
    (p : Option Addr) (m c : Nat) (ms : List Pk) (hx : a.eval x = .slice p m c) (hm : ms.length = m) (hr : RowsAt clPk w p ms) (hpos : 0 < m) (h63 : l.length + m ≤ 1000000000) (hbase : base ≤ w.heap.size)
    (h : ∀ v' w', Own clPk w' base 34 v' (l ++ ms) → w.grownBy w' v.ownBlock → (v'.ownBlock = v.ownBlock ∨ v'.ownBlock = some w.heap.size) → (∃ g cap, v' = .slice (some ⟨g, 0, none⟩) (l ++ ms).length cap) → K (a.put o.dst v') w') : wpOp Try.prog ops Q i K a w :=
  wpOp_append_cl slPk hi hg s x ho base v l hs hown p m c ms hx hm hr hpos (by simp only [maxLen]; omega) (by omega) hbase h
end
theorem KN.mk {SR : SRT} {B0 bk bs : Nat} {t : List Int} {wid : Int} {m : Nat} {D : List Nd} {A : List (Int × List It)} {w w1 w3 : World} {own own1 : Ghost} (hb : Below w.heap.size w w1) (ho : ∀ k, k < w.heap.size → own1 k = own k) (h : KN SR B0 bk bs t wid m D A w1 own1 w3) : KN SR B0 bk bs t wid m D A w own w3 := by
  obtain ⟨own3, g, s, f⟩ := h
  refine ⟨own3, g, fun k hk hf => ?_, f.os.trans hb.os, f.tape.trans hb.tape, f.output.trans hb.output, Nat.le_trans hb.size f.size, fun k hk hf hn => ?_⟩
  · have e := ho k hk
    rw [s k (Nat.lt_of_lt_of_le hk hb.size) (by rw [e]; exact hf), e]
  · have e := ho k hk
    rw [f.block k (Nat.lt_of_lt_of_le hk hb.size) (by rw [e]; exact hf) (by rw [e]; exact hn)]; exact hb.block k hk
theorem store_pk_new {ops : Array Oper} {rest : List Oper} {o : Oper} {a : Act} {w : World} {Q : Exit → Act → World → Prop} (hgd : o.guard = none) (x y : Operand) (ho : o.op = .store 34 x y) (u : Int) (s : Sl) (w0 : World) (c : Array Value) (hc : c.size = 2) (hw : w = w0.alloc (.cells c 34))
    (hx : a.eval x = .pointer (some ⟨w0.heap.size, 0, none⟩)) (hy : a.eval y = .agg #[.int .i64 u, .slice s.p s.n s.c])
    (h : wpList Try.prog ops Q rest (a.put o.dst undef) ((w0.alloc (.cells c 34)).setRow w0.heap.size #[.int .i64 u, .slice s.p s.n s.c])) : wpList Try.prog ops Q (o :: rest) a w := by
  subst hw
  exact store_pk hgd x y ho u s hx hy (heap_alloc_new _ _) hc h
/-- The packets that were laid by, with one more (the root sends none). -/
def sndA (t : List Int) (D : List Nd) (A : List (Int × List It)) (k : Nat) (low high : Int) : List (Int × List It) := if k = 0 then A else A ++ [((k : Int), sndL t D k low high)]
theorem sndA_zero (t : List Int) (D : List Nd) (A : List (Int × List It)) (low high : Int) : sndA t D A 0 low high = A := if_pos rfl
theorem sndA_pos {t : List Int} {D : List Nd} {A : List (Int × List It)} {k : Nat} (h : ¬ k = 0) (low high : Int) : sndA t D A k low high = A ++ [((k : Int), sndL t D k low high)] := if_neg h
set_option maxHeartbeats 8000000 in
theorem ksend_any (SR : SRT) (R : PR SR) (Q : PD SR) (w : World) (own : Ghost) (B0 bk bs : Nat) (t : List Int) (wid : Int) (m : Nat) (D : List Nd) (A : List (Int × List It)) (hx : KX SR B0 bk bs t wid m D A w own) (hm : m < 100000000) (k : Nat) (hk : k < t.length) (low high : Int) (hr : isRg low high = true) :
    Calls Try.prog 37 #[.pointer (some ⟨bk, 0, none⟩), .int .i64 k, .int .i64 low, .int .i64 high] w fun e w' => e = .returned (.bool true) ∧ KN SR B0 bk bs t wid (m + 1) D (sndA t D A k low high) w own w' := by
  obtain ⟨vt, vs, vl, C, PK, g⟩ := hx
  have HG : Hid (KD SR w own B0 bk bs t wid m D vt vs vl C PK A) := g
  have HR : Hid (PR SR) := R
  have HQ : Hid (PD SR) := Q
  have h8 := g.T.le
  have c0 : w.cell? ⟨bk, 0, none⟩ = some (.pointer (some ⟨bs, 0, none⟩)) := by rw [cell_of_row _ _ _ _ _ _ g.run]; rfl
  have hnd : isNd t k = true := by simp [isNd]; omega
  have hlh : 0 ≤ low ∧ high < 20 ∧ low ≤ high := by simpa [isRg] using hr
  have hbk := lt_of_blk g.run
  clear g R Q
  by_cases hz : k = 0
  · subst hz
    have HE : Hid (sndE t ((0 : Nat) : Int) low high = 4) := by unfold Hid sndE; rw [if_pos hnd, if_pos (by rfl)]
    go_enter Try.func37, Try.ntmps37
    go_wp2_with (first | (go_at_call 16; refine (HQ.out.send w own B0 bs t wid D HG.out.st (HG.out.di.mono' (by omega)) ((0 : Nat) : Int) low high ⟨by decide, by decide⟩ ⟨by omega, by omega⟩ ⟨by omega, by omega⟩).mono ?_; rintro e w1 ⟨v1, rfl, ho1, hb1⟩; rw [HE.out]; obtain ⟨s1, rfl⟩ : ∃ s1 : Sl, v1 = .slice s1.p s1.n s1.c := (by obtain ⟨p, c, e, _⟩ := ho1.form; exact ⟨⟨p, _, c⟩, e⟩); have HB1 : Hid (Below w.heap.size w w1) := hb1; clear ho1 hb1) | (refine alloc_pk rfl rfl ?_) | (refine store_pk_new rfl _ _ rfl _ s1 w1 #[.int .i64 0, .slice none 0 0] rfl rfl rfl rfl ?_))
    go_ret
    have hb : Below w.heap.size w ((w1.alloc (.cells #[.int .i64 0, .slice none 0 0] 34)).setRow w1.heap.size #[.int .i64 (sndF t ((0 : Nat) : Int) low high), .slice s1.p s1.n s1.c]) := below_setRow _ (bnext HB1.out (below_alloc _ _)) HB1.out.size
    exact ⟨rfl, by rw [sndA_zero]; exact ⟨own, ⟨vt, vs, vl, C, PK, (HG.out.below HR.out hb).mono (by omega)⟩, Same.refl _ _, Fr.of_below hb⟩⟩
  · have hkn : ((k : Int) == 0) = false := by simp; omega
    have HE : Hid (sndE t k low high = 0) := by unfold Hid sndE; rw [if_pos hnd, if_neg (by omega), if_pos hr]
    have HF : Hid (sndF t k low high = k) := by unfold Hid sndF; rw [if_pos HE.out]
    have HI : Hid (Inv t D (A ++ [((k : Int), sndL t D k low high)])) := inv_send HG.out.inv h8 hnd (by omega) low high fun j d hj => ⟨(HG.out.nb j d hj).kev, by have := (HG.out.di j d hj).2.1; omega⟩
    go_enter Try.func37, Try.ntmps37
    go_upto_region 4 with (first | (go_at_call 16; refine (HQ.out.send w own B0 bs t wid D HG.out.st (HG.out.di.mono' (by omega)) k low high ⟨by omega, by omega⟩ ⟨by omega, by omega⟩ ⟨by omega, by omega⟩).mono ?_; rintro e w1 ⟨v1, rfl, ho1, hb1⟩; rw [HE.out, HF.out]; obtain ⟨s1, rfl⟩ : ∃ s1 : Sl, v1 = .slice s1.p s1.n s1.c := (by obtain ⟨p, c, e, _⟩ := ho1.form; exact ⟨⟨p, _, c⟩, e⟩); have HB1 : Hid (Below w.heap.size w w1) := hb1; have HO1 : Hid (Own clIt w1 w.heap.size 80 (.slice s1.p s1.n s1.c) (sndL t D k low high)) := ho1; clear ho1 hb1) | (refine alloc_pk rfl rfl ?_) | (refine store_pk_new rfl _ _ rfl _ s1 w1 #[.int .i64 0, .slice none 0 0] rfl rfl rfl rfl ?_))
    rename World => w1
    obtain ⟨gp, hgp⟩ : ∃ gp, gp = w1.heap.size := ⟨_, rfl⟩
    obtain ⟨w2, hw2⟩ : ∃ w2, w2 = (w1.alloc (.cells #[.int .i64 0, .slice none 0 0] 34)).setRow w1.heap.size #[.int .i64 k, .slice s1.p s1.n s1.c] := ⟨_, rfl⟩
    have hs1 := HB1.out.size
    have HB2 : Hid (Below w.heap.size w w2) := by unfold Hid; rw [hw2]; exact below_setRow _ (bnext HB1.out (below_alloc _ _)) HB1.out.size
    have GP : Hid (w2.heap[gp]? = some (.cells #[.int .i64 k, .slice s1.p s1.n s1.c] 34)) := by unfold Hid; rw [hw2, hgp]; exact setRow_blk (heap_alloc_new _ _)
    have HO2 : Hid (Own clIt w2 w.heap.size 80 (.slice s1.p s1.n s1.c) (sndL t D k low high)) := by
      unfold Hid; rw [hw2]
      exact (HO1.out.below (below_alloc _ _)).chg fun j hj => setRow_other _ _ _ _ (fun e => by have := (HO1.out.lt j hj).2; omega)
    have hgpw : w.heap.size ≤ gp := by rw [hgp]; exact HB1.out.size
    rw [← hw2, ← hgp]
    clear hw2 hgp HO1
    obtain ⟨own2, hown2⟩ : ∃ own2 : Ghost, own2 = fun j => if (Value.slice s1.p s1.n s1.c).ownBlock = some j then .ldI else own j := ⟨_, rfl⟩
    have HOW : Hid (∀ j, j < w.heap.size → own2 j = own j) := fun j hj => by rw [hown2]; exact if_neg (fun e => by have := (HO2.out.lt j e).1; omega)
    have HOI : Hid (∀ j, (Value.slice s1.p s1.n s1.c).ownBlock = some j → own2 j = .ldI) := fun j hj => by rw [hown2]; exact if_pos hj
    have HG2 : Hid (KD SR w2 own2 B0 bk bs t wid m D vt vs vl C PK A) := HG.out.chg HR.out (S := fun _ => False) (Fr.of_below HB2.out) (fun j hj _ => HOW.out j hj) (fun _ h => h.elim)
    have HPK : Hid (PkIs w2 own2 ⟨k, s1⟩ ((k : Int), sndL t D k low high)) := ⟨rfl, (Own.sl (s := s1) HO2.out).1, (Own.sl (s := s1) HO2.out).2, fun b off e => by
      have e1 : (Value.slice s1.p s1.n s1.c).ownBlock = some b := by show (Value.slice s1.p s1.n s1.c).ownBlock = _; rw [show s1.p = some ⟨b, off, none⟩ from e]; rfl
      exact ⟨(HO2.out.lt b e1).2, HOI.out b e1⟩⟩
    obtain ⟨⟨vp, vn, vc⟩, hvl⟩ : ∃ v0 : Sl, v0 = vl := ⟨_, rfl⟩
    have HV : Hid (Own clPk w2 B0 34 (.slice vp vn vc) PK) := by have := HG2.out.ol; rw [← hvl] at this; exact this
    have c4 : w2.cell? ⟨bk, 4, none⟩ = some (.slice vp vn vc) := by rw [cell_of_row _ _ _ _ _ _ HG2.out.run, ← hvl]; rfl
    have HF2 : Hid (∃ cur, w2.heap[bk]? = some (.cells cur 31)) := ⟨_, HG2.out.run⟩
    have nbk : (Value.slice vp vn vc).ownBlock ≠ some bk := fun e => by
      have h1 := HG2.out.tl
      rw [← hvl] at h1
      have := h1 bk e
      rw [HG2.out.gm] at this; simp at this
    have ngp : (Value.slice vp vn vc).ownBlock ≠ some gp := fun e => by
      have h1 := HG.out.ol
      rw [← hvl] at h1
      have := (h1.lt gp e).2
      omega
    have hb02 := HG2.out.b0
    have hlp : PK.length ≤ m := HG2.out.lp
    have hbk2 : bk < w2.heap.size := lt_of_blk HG2.out.run
    have hgp2 : gp < w2.heap.size := lt_of_blk GP.out
    have hpb : gp ≠ bk := by omega
    have HVL : Hid ((⟨vp, vn, vc⟩ : Sl) = vl) := hvl
    clear hvl hown2 c0
    have hT0 : (fun w' : World => w'.heap[gp]? = some (.cells #[.int .i64 k, .slice s1.p s1.n s1.c] 34)) w2.drew := GP.out
    refine wp_region_held (S := fun w' : World => w'.heap[gp]? = some (.cells #[.int .i64 k, .slice s1.p s1.n s1.c] 34)) mixed ?_
    refine wpAnyH_take (i := 0) (v := (.pointer (some ⟨bk, 0, none⟩))) rfl (by kernel_rfl) (by kernel_rfl) (by kernel_rfl) (fun _ _ _ h => h) (Or.inl ⟨by rfl, fun wx hx => by go_simp⟩) hT0 ?_
    try dsimp only
    try simp only [Act.put, List.getElem_toArray, List.getElem_cons_succ, List.getElem_cons_zero, List.setIfInBounds_toArray, List.set_cons_zero, List.set_cons_succ]
    refine wpAnyH_take (i := 1) (v := (.pointer (some ⟨bk, 0, none⟩))) rfl (by kernel_rfl) (by kernel_rfl) (by kernel_rfl) (fun _ _ _ h => h) (Or.inl ⟨by rfl, fun wx hx => by go_simp⟩) hT0 ?_
    try dsimp only
    try simp only [Act.put, List.getElem_toArray, List.getElem_cons_succ, List.getElem_cons_zero, List.setIfInBounds_toArray, List.set_cons_zero, List.set_cons_succ]
    refine wpAnyH_take (i := 2) (v := (.pointer (some ⟨bk, 0, none⟩))) rfl (by kernel_rfl) (by kernel_rfl) (by kernel_rfl) (fun _ _ _ h => h) (Or.inl ⟨by rfl, fun wx hx => by go_simp⟩) hT0 ?_
    try dsimp only
    try simp only [Act.put, List.getElem_toArray, List.getElem_cons_succ, List.getElem_cons_zero, List.setIfInBounds_toArray, List.set_cons_zero, List.set_cons_succ]
    refine wpAnyH_take (i := 3) (v := (.pointer (some ⟨bk, 4, none⟩))) rfl (by kernel_rfl) (by kernel_rfl) (by kernel_rfl) (fun _ _ _ h => h) (Or.inl ⟨by rfl, fun wx hx => by go_simp⟩) hT0 ?_
    try dsimp only
    try simp only [Act.put, List.getElem_toArray, List.getElem_cons_succ, List.getElem_cons_zero, List.setIfInBounds_toArray, List.set_cons_zero, List.set_cons_succ]
    refine wpAnyH_take (i := 5) (v := (.agg #[.int .i64 k, .slice s1.p s1.n s1.c])) rfl (by kernel_rfl) (by kernel_rfl) (by kernel_rfl) (fun _ _ _ h => h) (yieldsIf_load_pk (by rfl) _ rfl _ rfl _ _ (fun wx hx => hx)) hT0 ?_
    try dsimp only
    try simp only [Act.put, List.getElem_toArray, List.getElem_cons_succ, List.getElem_cons_zero, List.setIfInBounds_toArray, List.set_cons_zero, List.set_cons_succ]
    refine wpAnyH_all (rs := [4, 6]) (by kernel_rfl) (by simp) ?_
    intro jj hjj
    simp only [List.mem_cons, List.not_mem_nil, or_false] at hjj
    rcases hjj with rfl | rfl
    · skip
      refine wpOp_of_wp rfl rfl (hideK ?_)
      intro K' hK'
      go_simp
      rw [hK'.out]
      refine ⟨hT0, ?_⟩
      try dsimp only
      try simp only [Act.put, List.getElem_toArray, List.getElem_cons_succ, List.getElem_cons_zero, List.setIfInBounds_toArray, List.set_cons_zero, List.set_cons_succ]
      refine wpAnyH_all (rs := [6]) (by kernel_rfl) (by simp) ?_
      intro jj hjj
      simp only [List.mem_cons, List.not_mem_nil, or_false] at hjj
      subst hjj
      refine wpOp_build1_pk rfl rfl _ rfl ⟨k, s1⟩ rfl ?_
      intro R1
      have hT1 : (fun w' : World => w'.heap[gp]? = some (.cells #[.int .i64 k, .slice s1.p s1.n s1.c] 34)) (w2.drew.alloc (.cells (flat clPk [(⟨k, s1⟩ : Pk)]).toArray 34)) := (Below.heap_alloc w2.drew _ gp hgp2).trans GP.out
      refine ⟨hT1, ?_⟩
      try dsimp only
      try simp only [Act.put, List.getElem_toArray, List.getElem_cons_succ, List.getElem_cons_zero, List.setIfInBounds_toArray, List.set_cons_zero, List.set_cons_succ]
      refine wpAnyH_all (rs := [7]) (by kernel_rfl) (by simp) ?_
      intro jj hjj
      simp only [List.mem_cons, List.not_mem_nil, or_false] at hjj
      subst hjj
      refine wpOp_append_pk rfl rfl _ _ rfl B0 _ _ rfl (by exact HV.out.below (below_drawn' (below_alloc w2.drew _))) _ 1 _ _ rfl rfl R1 (by omega) (by omega) (by simp; omega) ?_
      intro v3 w3 o3 g3 t3 f3
      obtain ⟨gn, cn, rfl⟩ := f3
      have hl1 : (PK ++ [(⟨k, s1⟩ : Pk)]).length = PK.length + 1 := by simp
      rw [hl1] at o3 t3 ⊢
      have e3 : ∀ j, j < w2.heap.size → (Value.slice vp vn vc).ownBlock ≠ some j → w3.heap[j]? = w2.heap[j]? := fun j hj hne => by rw [g3.block j (by simp; omega) (fun e => hne e.symm)]; exact Below.heap_alloc w2.drew _ j hj
      have hT2 : (fun w' : World => w'.heap[gp]? = some (.cells #[.int .i64 k, .slice s1.p s1.n s1.c] 34)) w3 := by show w3.heap[gp]? = _; rw [e3 gp hgp2 ngp]; exact GP.out
      refine ⟨hT2, ?_⟩
      try dsimp only
      try simp only [Act.put, List.getElem_toArray, List.getElem_cons_succ, List.getElem_cons_zero, List.setIfInBounds_toArray, List.set_cons_zero, List.set_cons_succ]
      refine wpAnyH_take (i := 8) (v := (.pointer (some ⟨bk, 0, none⟩))) rfl (by kernel_rfl) (by kernel_rfl) (by kernel_rfl) (fun _ _ _ h => h) (Or.inl ⟨by rfl, fun wx hx => by go_simp⟩) hT2 ?_
      try dsimp only
      try simp only [Act.put, List.getElem_toArray, List.getElem_cons_succ, List.getElem_cons_zero, List.setIfInBounds_toArray, List.set_cons_zero, List.set_cons_succ]
      refine wpAnyH_take (i := 9) (v := (.pointer (some ⟨bk, 4, none⟩))) rfl (by kernel_rfl) (by kernel_rfl) (by kernel_rfl) (fun _ _ _ h => h) (Or.inl ⟨by rfl, fun wx hx => by go_simp⟩) hT2 ?_
      try dsimp only
      try simp only [Act.put, List.getElem_toArray, List.getElem_cons_succ, List.getElem_cons_zero, List.setIfInBounds_toArray, List.set_cons_zero, List.set_cons_succ]
      refine wpAnyH_all (rs := [10]) (by kernel_rfl) (by simp) ?_
      intro jj hjj
      simp only [List.mem_cons, List.not_mem_nil, or_false] at hjj
      subst hjj
      have cx : w3.cell? ⟨bk, 4, none⟩ = some (.slice vp vn vc) := by rw [World.cell?_of_block (w := w2) (e3 bk hbk2 nbk)]; exact c4
      have fx : w3.frozen? ⟨bk, 4, none⟩ = false := by obtain ⟨cur, hcur⟩ := HF2.out; exact frozen_of_row _ _ _ _ _ ((e3 bk hbk2 nbk).trans hcur)
      have hT3 : (fun w' : World => w'.heap[gp]? = some (.cells #[.int .i64 k, .slice s1.p s1.n s1.c] 34)) (w3.setCell ⟨bk, 4, none⟩ (.slice (some ⟨gn, 0, none⟩) (PK.length + 1) cn)) := by show (w3.setCell _ _).heap[gp]? = _; rw [heap_setCell_other _ _ _ _ (by show gp ≠ bk; exact hpb)]; exact hT2
      refine wpOp_of_wp rfl rfl (hideK ?_)
      intro K' hK'
      go_simp
      rw [hK'.out]
      refine ⟨hT3, ?_⟩
      try dsimp only
      try simp only [Act.put, List.getElem_toArray, List.getElem_cons_succ, List.getElem_cons_zero, List.setIfInBounds_toArray, List.set_cons_zero, List.set_cons_succ]
      refine wpAnyH_done (by kernel_rfl) ?_ _
      have Z : Hid (KN SR B0 bk bs t wid (m + 1) D (A ++ [((k : Int), sndL t D k low high)]) w own (w3.setCell ⟨bk, 4, none⟩ (.slice (some ⟨gn, 0, none⟩) (PK.length + 1) cn))) := KN.mk HB2.out HOW.out (HG2.out.laid HR.out (below_drawn' (below_alloc w2.drew _)) ⟨k, s1⟩ _ HPK.out HI.out ⟨some ⟨gn, 0, none⟩, PK.length + 1, cn⟩ o3 (by rw [← HVL.out]; exact g3) (by rw [← HVL.out]; exact t3))
      clear hT0 hT1 hT2 hT3 o3 g3 t3 e3 cx fx R1 c4 hl1
      go_wp2
      go_ret
      exact ⟨rfl, by rw [sndA_pos hz]; exact Z.out⟩
    · skip
      refine wpOp_build1_pk rfl rfl _ rfl ⟨k, s1⟩ rfl ?_
      intro R1
      have hT1 : (fun w' : World => w'.heap[gp]? = some (.cells #[.int .i64 k, .slice s1.p s1.n s1.c] 34)) (w2.drew.alloc (.cells (flat clPk [(⟨k, s1⟩ : Pk)]).toArray 34)) := (Below.heap_alloc w2.drew _ gp hgp2).trans GP.out
      refine ⟨hT1, ?_⟩
      try dsimp only
      try simp only [Act.put, List.getElem_toArray, List.getElem_cons_succ, List.getElem_cons_zero, List.setIfInBounds_toArray, List.set_cons_zero, List.set_cons_succ]
      have c4' : (w2.drew.alloc (.cells (flat clPk [(⟨k, s1⟩ : Pk)]).toArray 34)).cell? ⟨bk, 4, none⟩ = some (.slice vp vn vc) := cell_keep (below_alloc w2.drew _) c4
      have c4'' : (w2.alloc (.cells (flat clPk [(⟨k, s1⟩ : Pk)]).toArray 34)).cell? ⟨bk, 4, none⟩ = some (.slice vp vn vc) := cell_keep (below_alloc w2 _) c4
      refine wpAnyH_all (rs := [4]) (by kernel_rfl) (by simp) ?_
      intro jj hjj
      simp only [List.mem_cons, List.not_mem_nil, or_false] at hjj
      subst hjj
      refine wpOp_of_wp rfl rfl (hideK ?_)
      intro K' hK'
      go_simp
      rw [hK'.out]
      refine ⟨hT1, ?_⟩
      try dsimp only
      try simp only [Act.put, List.getElem_toArray, List.getElem_cons_succ, List.getElem_cons_zero, List.setIfInBounds_toArray, List.set_cons_zero, List.set_cons_succ]
      clear c4' c4''
      refine wpAnyH_all (rs := [7]) (by kernel_rfl) (by simp) ?_
      intro jj hjj
      simp only [List.mem_cons, List.not_mem_nil, or_false] at hjj
      subst hjj
      refine wpOp_append_pk rfl rfl _ _ rfl B0 _ _ rfl (by exact HV.out.below (below_drawn' (below_alloc w2.drew _))) _ 1 _ _ rfl rfl R1 (by omega) (by omega) (by simp; omega) ?_
      intro v3 w3 o3 g3 t3 f3
      obtain ⟨gn, cn, rfl⟩ := f3
      have hl1 : (PK ++ [(⟨k, s1⟩ : Pk)]).length = PK.length + 1 := by simp
      rw [hl1] at o3 t3 ⊢
      have e3 : ∀ j, j < w2.heap.size → (Value.slice vp vn vc).ownBlock ≠ some j → w3.heap[j]? = w2.heap[j]? := fun j hj hne => by rw [g3.block j (by simp; omega) (fun e => hne e.symm)]; exact Below.heap_alloc w2.drew _ j hj
      have hT2 : (fun w' : World => w'.heap[gp]? = some (.cells #[.int .i64 k, .slice s1.p s1.n s1.c] 34)) w3 := by show w3.heap[gp]? = _; rw [e3 gp hgp2 ngp]; exact GP.out
      refine ⟨hT2, ?_⟩
      try dsimp only
      try simp only [Act.put, List.getElem_toArray, List.getElem_cons_succ, List.getElem_cons_zero, List.setIfInBounds_toArray, List.set_cons_zero, List.set_cons_succ]
      refine wpAnyH_take (i := 8) (v := (.pointer (some ⟨bk, 0, none⟩))) rfl (by kernel_rfl) (by kernel_rfl) (by kernel_rfl) (fun _ _ _ h => h) (Or.inl ⟨by rfl, fun wx hx => by go_simp⟩) hT2 ?_
      try dsimp only
      try simp only [Act.put, List.getElem_toArray, List.getElem_cons_succ, List.getElem_cons_zero, List.setIfInBounds_toArray, List.set_cons_zero, List.set_cons_succ]
      refine wpAnyH_take (i := 9) (v := (.pointer (some ⟨bk, 4, none⟩))) rfl (by kernel_rfl) (by kernel_rfl) (by kernel_rfl) (fun _ _ _ h => h) (Or.inl ⟨by rfl, fun wx hx => by go_simp⟩) hT2 ?_
      try dsimp only
      try simp only [Act.put, List.getElem_toArray, List.getElem_cons_succ, List.getElem_cons_zero, List.setIfInBounds_toArray, List.set_cons_zero, List.set_cons_succ]
      refine wpAnyH_all (rs := [10]) (by kernel_rfl) (by simp) ?_
      intro jj hjj
      simp only [List.mem_cons, List.not_mem_nil, or_false] at hjj
      subst hjj
      have cx : w3.cell? ⟨bk, 4, none⟩ = some (.slice vp vn vc) := by rw [World.cell?_of_block (w := w2) (e3 bk hbk2 nbk)]; exact c4
      have fx : w3.frozen? ⟨bk, 4, none⟩ = false := by obtain ⟨cur, hcur⟩ := HF2.out; exact frozen_of_row _ _ _ _ _ ((e3 bk hbk2 nbk).trans hcur)
      have hT3 : (fun w' : World => w'.heap[gp]? = some (.cells #[.int .i64 k, .slice s1.p s1.n s1.c] 34)) (w3.setCell ⟨bk, 4, none⟩ (.slice (some ⟨gn, 0, none⟩) (PK.length + 1) cn)) := by show (w3.setCell _ _).heap[gp]? = _; rw [heap_setCell_other _ _ _ _ (by show gp ≠ bk; exact hpb)]; exact hT2
      refine wpOp_of_wp rfl rfl (hideK ?_)
      intro K' hK'
      go_simp
      rw [hK'.out]
      refine ⟨hT3, ?_⟩
      try dsimp only
      try simp only [Act.put, List.getElem_toArray, List.getElem_cons_succ, List.getElem_cons_zero, List.setIfInBounds_toArray, List.set_cons_zero, List.set_cons_succ]
      refine wpAnyH_done (by kernel_rfl) ?_ _
      have Z : Hid (KN SR B0 bk bs t wid (m + 1) D (A ++ [((k : Int), sndL t D k low high)]) w own (w3.setCell ⟨bk, 4, none⟩ (.slice (some ⟨gn, 0, none⟩) (PK.length + 1) cn))) := KN.mk HB2.out HOW.out (HG2.out.laid HR.out (below_drawn' (below_alloc w2.drew _)) ⟨k, s1⟩ _ HPK.out HI.out ⟨some ⟨gn, 0, none⟩, PK.length + 1, cn⟩ o3 (by rw [← HVL.out]; exact g3) (by rw [← HVL.out]; exact t3))
      clear hT0 hT1 hT2 hT3 o3 g3 t3 e3 cx fx R1 c4 hl1
      go_wp2
      go_ret
      exact ⟨rfl, by rw [sndA_pos hz]; exact Z.out⟩
end Go.Proofs.Ytpglbakcjihohab

/-! A packet comes to the node above. -/
namespace Go.Proofs.Ytpglbakcjihohab
open Go.RowKit
set_option maxRecDepth 100000

theorem kdel_done {SR : SRT} {w w2 : World} {own own2 : Ghost} {B0 bk bs : Nat} {t : List Int} {wid : Int} {m : Nat} {D : List Nd} {vt vs vl : Sl} {C : List SrcC} {PK : List Pk} {A : List (Int × List It)} (g : KD SR w own B0 bk bs t wid m D vt vs vl C PK A) (p : Int × List It) (hinv : Inv t (delD t D (t.getD p.1.toNat 0) p.1 p.2) A) (hst : SR w2 own2 B0 bs t wid (delD t D (t.getD p.1.toNat 0) p.1 p.2)) (sm : Same w own own2) (fr : Fr own isSt w w2) : KN SR B0 bk bs t wid m (delD t D (t.getD p.1.toNat 0) p.1 p.2) A w own w2 := by
  have hd' : ∀ (j : Nat) (d' : Nd), (delD t D (t.getD p.1.toNat 0) p.1 p.2)[j]? = some d' → ∃ d, D[j]? = some d ∧ d'.lev = d.lev ∧ d'.kev = d.kev ∧ d'.lcl = d.lcl ∧ d'.kcl = d.kcl ∧ d'.lmk = d.lmk ∧ d'.kmk = d.kmk := fun j d' hj => by
    unfold delD at hj
    split at hj
    · cases hx : D[(t.getD p.1.toNat 0).toNat]? with
      | none => rw [hx] at hj; exact ⟨d', hj, rfl, rfl, rfl, rfl, rfl, rfl⟩
      | some d =>
        rw [hx] at hj
        rcases set_some hj with ⟨rfl, rfl⟩ | ⟨_, hj⟩
        · exact ⟨d, hx, rfl, rfl, rfl, rfl, rfl, rfl⟩
        · exact ⟨d', hj, rfl, rfl, rfl, rfl, rfl, rfl⟩
    · exact ⟨d', hj, rfl, rfl, rfl, rfl, rfl, rfl⟩
  refine ⟨own2, ⟨_, _, _, _, _, g.re (m' := m) (fr_st fr) sm hst (g.so.fr fr g.ts (by simp) (by rintro ⟨i, e⟩; simp at e)) rfl (fun j c d' hc hj => ?_) hinv (fun j d' hj => ?_) (fun j d' hj => ?_) (Nat.le_refl _)⟩, sm, fr.mono fun _ ⟨i, e⟩ => by rw [e]; simp [notA]⟩
  · obtain ⟨d, h0, h1, h2, h3, h4, h5, h6⟩ := hd' j d' hj
    have r := (g.rep j c d hc h0).chg fr sm (fun v _ => by rintro ⟨i, e⟩; simp at e)
    exact ⟨by rw [h1]; exact r.ev, r.te, by rw [h2]; exact r.kept, by rw [h3]; exact r.cl, by rw [h4]; exact r.sh, by rw [h5]; exact r.mark, by rw [h6]; exact r.saved⟩
  · obtain ⟨d, h0, h1, h2, _⟩ := hd' j d' hj
    have := g.di j d h0
    exact ⟨by rw [h1]; exact this.1, by rw [h2]; exact this.2.1, hinv.gd j d' hj⟩
  · obtain ⟨d, h0, h1, h2, _, _, h5, h6⟩ := hd' j d' hj
    have := g.nb j d h0
    exact ⟨by rw [h1]; exact this.lev, by rw [h2]; exact this.kev, by rw [h5]; exact this.lm0, by rw [h5]; exact this.lm1, by rw [h6]; exact this.km0, by rw [h6]; exact this.km1⟩
theorem PR.below' {SR : SRT} (R : PR SR) {w w' : World} {own : Ghost} {B0 bs : Nat} {t : List Int} {wid : Int} {D : List Nd} (h : SR w own B0 bs t wid D) (hb : Below w.heap.size w w') : SR w' own B0 bs t wid D :=
  R.chg h (Fr.of_below (S := fun _ => False) hb) (Same.refl _ _) fun _ h => h
/-- What a packet's coming makes of the nodes. -/
def BrD (t : List Int) (A : List (Int × List It)) (D D' : List Nd) : Prop := D' = D ∨ ∃ p ∈ A, D' = delD t D (t.getD p.1.toNat 0) p.1 p.2
set_option maxHeartbeats 8000000 in
theorem kbring_any (SR : SRT) (R : PR SR) (Q : PJ2 SR) (w : World) (own : Ghost) (B0 bk bs : Nat) (t : List Int) (wid : Int) (m : Nat) (D : List Nd) (A : List (Int × List It)) (hx : KX SR B0 bk bs t wid m D A w own) (hm : m < 100000000) (kk : Int) (hkk : fitsI kk) :
    Calls Try.prog 38 #[.pointer (some ⟨bk, 0, none⟩), .int .i64 kk] w fun e w' => e = .returned (.bool true) ∧ ∃ D', BrD t A D D' ∧ KN SR B0 bk bs t wid m D' A w own w' := by
  obtain ⟨vt, vs, vl, C, PK, g⟩ := hx
  have HG : Hid (KD SR w own B0 bk bs t wid m D vt vs vl C PK A) := g
  have HR : Hid (PR SR) := R
  have HQ : Hid (PJ2 SR) := Q
  obtain ⟨⟨vp, vn, vc⟩, hvl⟩ : ∃ v0 : Sl, v0 = vl := ⟨_, rfl⟩
  have HV0 : Hid (PK.length = vn ∧ RowsAt clPk w vp PK) := by have := g.ol; rw [← hvl] at this; exact Own.sl (s := ⟨vp, vn, vc⟩) this
  have c4 : w.cell? ⟨bk, 4, none⟩ = some (.slice vp vn vc) := by rw [cell_of_row _ _ _ _ _ _ g.run, ← hvl]; rfl
  have c0 : w.cell? ⟨bk, 0, none⟩ = some (.pointer (some ⟨bs, 0, none⟩)) := by rw [cell_of_row _ _ _ _ _ _ g.run]; rfl
  have hlp := g.lp
  have h8 := g.T.le
  have hbk := lt_of_blk g.run
  clear R Q
  by_cases hz : PK.length = 0
  · have hvn : vn = 0 := by have := HV0.out.1; omega
    subst hvn
    clear g
    go_enter Try.func38, Try.ntmps38
    go_wp2
    go_ret
    exact ⟨rfl, D, .inl rfl, own, ⟨vt, vs, vl, C, PK, HG.out⟩, Same.refl _ _, Fr.refl _ _ _⟩
  · obtain ⟨gd, od, rfl, hgd, hrg⟩ := HV0.out.2.pos 0 (by omega)
    have hvn : PK.length = vn := HV0.out.1
    have nz : ((vn : Int) == 0) = false := by simp; omega
    have hn1 : (1 : Int) ≤ (vn : Int) := by omega
    have hpk := pk_bd kk vn hn1
    obtain ⟨q, hq⟩ : ∃ q : Nat, pk kk vn = q := ⟨(pk kk vn).toNat, by omega⟩
    have HPQ : Hid (pk kk vn = q) := hq
    have q0 : (0 : Int) ≤ (q : Int) := by omega
    have q1 : (q : Int) < (vn : Int) := by omega
    obtain ⟨⟨xf, ⟨xp, xn, xc⟩⟩, hxq⟩ : ∃ x, PK[q]? = some x := ⟨_, List.getElem?_eq_getElem (by omega)⟩
    obtain ⟨p, hpA⟩ : ∃ p, A[q]? = some p := ⟨_, List.getElem?_eq_getElem (by rw [g.la]; omega)⟩
    have hpm := List.mem_of_getElem? hpA
    obtain ⟨hf1, hf2, hf3, hf4⟩ := g.pk q _ p hxq hpA
    obtain ⟨p1, p2, pg, px⟩ := g.inv.pk p hpm
    replace hf1 : xf = p.1 := hf1
    obtain ⟨fk, hfk⟩ : ∃ fk : Nat, xf = fk := ⟨xf.toNat, by omega⟩
    have hrq : w.rangeAt gd (od + q * 2) [.int .i64 xf, .slice xp xn xc] := hrg q _ hxq
    rw [hfk] at hrq
    have HRQ : Hid (w.rangeAt gd (od + q * 2) [.int .i64 fk, .slice xp xn xc]) := hrq
    obtain ⟨⟨tp, tn, tc⟩, hvt⟩ : ∃ v0 : Sl, v0 = vt := ⟨_, rfl⟩
    have htr : t.length = tn ∧ RowsAt clInt w tp t := by have := g.tr; rw [← hvt] at this; exact Own.sl (s := ⟨tp, tn, tc⟩) this
    have c1 : w.cell? ⟨bk, 1, none⟩ = some (.slice tp tn tc) := by rw [cell_of_row _ _ _ _ _ _ g.run, ← hvt]; rfl
    obtain ⟨gt, ot, rfl, hgt, ct⟩ := htr.2.int_at (Below.refl _ _) fk (by omega)
    obtain ⟨up, hup⟩ : ∃ up, t.getD fk 0 = up := ⟨_, rfl⟩
    rw [← tree_get (by omega), hup] at ct
    have hT := g.T.up fk (by omega) (by omega)
    rw [hup] at hT
    have tgt : own gt = .wd 0 := by have h1 := g.tt; rw [← hvt] at h1; exact h1 gt rfl
    have HPA : Hid (p ∈ A ∧ p.1 = fk ∧ p.2.length = xn ∧ RowsAt clIt w xp p.2 ∧ Good p.2 ∧ ∀ b off, xp = some ⟨b, off, none⟩ → b < w.heap.size ∧ own b = .ldI) := ⟨hpm, by omega, hf2, hf3, pg, hf4⟩
    have hxn : xn ≤ 160 := by have h1 := pg.len; have h2 : p.2.length = xn := hf2; omega
    have HFA : Hid (fair t up fk p.2 = true) := by have := fair_pk g.inv hpm; rw [HPA.out.2.1] at this; unfold Hid; rw [← hup]; simpa using this
    have HDE : Hid (delE t up fk p.2 = 0) := by unfold Hid delE; rw [if_pos (by simp [isNd]; omega), if_pos HFA.out]
    have HUP : Hid (t.getD p.1.toNat 0 = up) := by unfold Hid; rw [HPA.out.2.1]; simpa using hup
    have f1 : ¬ ((fk : Int) < 1) := by omega
    have f2 : (fk : Int) < (tn : Int) := by omega
    have f0 : (0 : Int) ≤ (fk : Int) := by omega
    have f3 : fk < tn := by omega
    have HUB : Hid (0 ≤ up ∧ up < 8) := ⟨by omega, by omega⟩
    have f4 : (fk : Int) < 8 := by omega
    have HGM : Hid (own bk = .gm) := g.gm
    clear g hrg hrq hq hxq hpA hpm hf1 hf2 hf3 hf4 p1 p2 pg px hfk hvt htr hvl hup
    go_enter Try.func38, Try.ntmps38
    go_upto_region 3 with fail
    go_cut [5] (fun v5 wx => ∃ gp : Nat, v5 = .pointer (some ⟨gp, 0, none⟩) ∧ wx.heap[gp]? = some (.cells #[.int .i64 fk, .slice xp xn xc] 34) ∧ w.heap.size ≤ gp ∧ Below w.heap.size w wx)
    case first =>
      have hT0 : (fun w' : World => w'.cell? ⟨bk, 4, none⟩ = some (.slice (some ⟨gd, od, none⟩) vn vc) ∧ w'.rangeAt gd (od + q * 2) [.int .i64 fk, .slice xp xn xc]) w.drew := ⟨c4, HRQ.out⟩
      refine wp_region_held (S := fun w' : World => w'.cell? ⟨bk, 4, none⟩ = some (.slice (some ⟨gd, od, none⟩) vn vc) ∧ w'.rangeAt gd (od + q * 2) [.int .i64 fk, .slice xp xn xc]) mixed ?_
      refine wpAnyH_take (i := 0) (v := (.pointer (some ⟨bk, 0, none⟩))) rfl (by kernel_rfl) (by kernel_rfl) (by kernel_rfl) (fun _ _ _ h => h) (Or.inl ⟨by rfl, fun wx hx => by go_simp⟩) hT0 ?_
      try dsimp only
      try simp only [Act.put, List.getElem_toArray, List.getElem_cons_succ, List.getElem_cons_zero, List.setIfInBounds_toArray, List.set_cons_zero, List.set_cons_succ]
      refine wpAnyH_take (i := 1) (v := (.pointer (some ⟨bk, 0, none⟩))) rfl (by kernel_rfl) (by kernel_rfl) (by kernel_rfl) (fun _ _ _ h => h) (Or.inl ⟨by rfl, fun wx hx => by go_simp⟩) hT0 ?_
      try dsimp only
      try simp only [Act.put, List.getElem_toArray, List.getElem_cons_succ, List.getElem_cons_zero, List.setIfInBounds_toArray, List.set_cons_zero, List.set_cons_succ]
      refine wpAnyH_take (i := 2) (v := (.pointer (some ⟨bk, 4, none⟩))) rfl (by kernel_rfl) (by kernel_rfl) (by kernel_rfl) (fun _ _ _ h => h) (Or.inl ⟨by rfl, fun wx hx => by go_simp⟩) hT0 ?_
      try dsimp only
      try simp only [Act.put, List.getElem_toArray, List.getElem_cons_succ, List.getElem_cons_zero, List.setIfInBounds_toArray, List.set_cons_zero, List.set_cons_succ]
      refine wpAnyH_take (i := 3) (v := (.slice (some ⟨gd, od, none⟩) vn vc)) rfl (by kernel_rfl) (by kernel_rfl) (by kernel_rfl) (fun _ _ _ h => h) (Or.inl ⟨by rfl, fun wx hx => by have hx1 := hx.1; go_simp⟩) hT0 ?_
      try dsimp only
      try simp only [Act.put, List.getElem_toArray, List.getElem_cons_succ, List.getElem_cons_zero, List.setIfInBounds_toArray, List.set_cons_zero, List.set_cons_succ]
      refine wpAnyH_take (i := 4) (v := (.int .i64 kk)) rfl (by kernel_rfl) (by kernel_rfl) (by kernel_rfl) (fun _ _ _ h => h) (Or.inl ⟨by rfl, fun wx hx => by go_simp⟩) hT0 ?_
      try dsimp only
      try simp only [Act.put, List.getElem_toArray, List.getElem_cons_succ, List.getElem_cons_zero, List.setIfInBounds_toArray, List.set_cons_zero, List.set_cons_succ]
      refine wpAnyH_take (i := 5) (v := (.pointer (some ⟨bk, 0, none⟩))) rfl (by kernel_rfl) (by kernel_rfl) (by kernel_rfl) (fun _ _ _ h => h) (Or.inl ⟨by rfl, fun wx hx => by go_simp⟩) hT0 ?_
      try dsimp only
      try simp only [Act.put, List.getElem_toArray, List.getElem_cons_succ, List.getElem_cons_zero, List.setIfInBounds_toArray, List.set_cons_zero, List.set_cons_succ]
      refine wpAnyH_take (i := 6) (v := (.pointer (some ⟨bk, 0, none⟩))) rfl (by kernel_rfl) (by kernel_rfl) (by kernel_rfl) (fun _ _ _ h => h) (Or.inl ⟨by rfl, fun wx hx => by go_simp⟩) hT0 ?_
      try dsimp only
      try simp only [Act.put, List.getElem_toArray, List.getElem_cons_succ, List.getElem_cons_zero, List.setIfInBounds_toArray, List.set_cons_zero, List.set_cons_succ]
      refine wpAnyH_take (i := 7) (v := (.pointer (some ⟨bk, 4, none⟩))) rfl (by kernel_rfl) (by kernel_rfl) (by kernel_rfl) (fun _ _ _ h => h) (Or.inl ⟨by rfl, fun wx hx => by go_simp⟩) hT0 ?_
      try dsimp only
      try simp only [Act.put, List.getElem_toArray, List.getElem_cons_succ, List.getElem_cons_zero, List.setIfInBounds_toArray, List.set_cons_zero, List.set_cons_succ]
      refine wpAnyH_take (i := 8) (v := (.slice (some ⟨gd, od, none⟩) vn vc)) rfl (by kernel_rfl) (by kernel_rfl) (by kernel_rfl) (fun _ _ _ h => h) (Or.inl ⟨by rfl, fun wx hx => by have hx1 := hx.1; go_simp⟩) hT0 ?_
      try dsimp only
      try simp only [Act.put, List.getElem_toArray, List.getElem_cons_succ, List.getElem_cons_zero, List.setIfInBounds_toArray, List.set_cons_zero, List.set_cons_succ]
      refine wpAnyH_take (i := 9) (v := (.int .i64 vn)) rfl (by kernel_rfl) (by kernel_rfl) (by kernel_rfl) (fun _ _ _ h => h) (Or.inl ⟨by rfl, fun wx hx => by go_simp⟩) hT0 ?_
      try dsimp only
      try simp only [Act.put, List.getElem_toArray, List.getElem_cons_succ, List.getElem_cons_zero, List.setIfInBounds_toArray, List.set_cons_zero, List.set_cons_succ]
      refine wpAnyH_all (rs := [10, 13]) (by kernel_rfl) (by simp) ?_
      intro jj hjj
      simp only [List.mem_cons, List.not_mem_nil, or_false] at hjj
      rcases hjj with rfl | rfl
      · skip
        refine wpOp_of_wp rfl rfl ?_
        go_simp
        refine (pick_any kk vn w.drew hkk.1 hkk.2 hn1 (by omega)).mono ?_
        rintro e w2 ⟨rfl, hw2⟩
        subst hw2
        rw [HPQ.out]
        refine ⟨hT0, ?_⟩
        try dsimp only
        try simp only [Act.put, List.getElem_toArray, List.getElem_cons_succ, List.getElem_cons_zero, List.setIfInBounds_toArray, List.set_cons_zero, List.set_cons_succ]
        refine wpAnyH_take (i := 11) (v := (.pointer (some ⟨gd, od + q * 2, none⟩))) rfl (by kernel_rfl) (by kernel_rfl) (by kernel_rfl) (fun _ _ _ h => h) (Or.inl ⟨by rfl, fun wx hx => by go_simp⟩) hT0 ?_
        try dsimp only
        try simp only [Act.put, List.getElem_toArray, List.getElem_cons_succ, List.getElem_cons_zero, List.setIfInBounds_toArray, List.set_cons_zero, List.set_cons_succ]
        refine wpAnyH_take (i := 12) (v := (.agg #[.int .i64 fk, .slice xp xn xc])) rfl (by kernel_rfl) (by kernel_rfl) (by kernel_rfl) (fun _ _ _ h => h) (yieldsIf_load_pk_mid (by rfl) _ rfl _ _ rfl _ _ (fun wx hx => hx.2)) hT0 ?_
        try dsimp only
        try simp only [Act.put, List.getElem_toArray, List.getElem_cons_succ, List.getElem_cons_zero, List.setIfInBounds_toArray, List.set_cons_zero, List.set_cons_succ]
        refine wpAnyH_all (rs := [13]) (by kernel_rfl) (by simp) ?_
        intro jj hjj
        simp only [List.mem_cons, List.not_mem_nil, or_false] at hjj
        subst hjj
        refine wpOp_alloc_z rfl rfl _ rfl _ zero_pk ?_
        have hbal : Below w.heap.size w (w.drew.alloc (.cells #[.int .i64 0, .slice none 0 0] 34)) := below_drawn' (below_alloc w.drew _)
        have hT2 : (fun w' : World => w'.cell? ⟨bk, 4, none⟩ = some (.slice (some ⟨gd, od, none⟩) vn vc) ∧ w'.rangeAt gd (od + q * 2) [.int .i64 fk, .slice xp xn xc]) (w.drew.alloc (.cells #[.int .i64 0, .slice none 0 0] 34)) := ⟨cell_keep (w := w) hbal c4, range_below (w := w) hbal hgd HRQ.out⟩
        refine ⟨hT2, ?_⟩
        try dsimp only
        try simp only [Act.put, List.getElem_toArray, List.getElem_cons_succ, List.getElem_cons_zero, List.setIfInBounds_toArray, List.set_cons_zero, List.set_cons_succ]
        refine wpAnyH_all (rs := [14]) (by kernel_rfl) (by simp) ?_
        intro jj hjj
        simp only [List.mem_cons, List.not_mem_nil, or_false] at hjj
        subst hjj
        have G5 := heap_alloc_new w.drew (.cells #[.int .i64 0, .slice none 0 0] 34)
        refine wpOp_store_row rfl rfl _ _ _ rfl #[.int .i64 fk, .slice xp xn xc] rfl rfl G5 info_pk rfl (by simp [Value.oneCell']) ?_
        have hbst : Below w.heap.size w ((w.drew.alloc (.cells #[.int .i64 0, .slice none 0 0] 34)).setRow w.heap.size #[.int .i64 fk, .slice xp xn xc]) := below_setRow _ hbal (Nat.le_refl _)
        have hT3 : (fun w' : World => w'.cell? ⟨bk, 4, none⟩ = some (.slice (some ⟨gd, od, none⟩) vn vc) ∧ w'.rangeAt gd (od + q * 2) [.int .i64 fk, .slice xp xn xc]) ((w.drew.alloc (.cells #[.int .i64 0, .slice none 0 0] 34)).setRow w.heap.size #[.int .i64 fk, .slice xp xn xc]) := ⟨cell_keep (w := w) hbst c4, range_below (w := w) hbst hgd HRQ.out⟩
        refine ⟨hT3, ?_⟩
        try dsimp only
        try simp only [Act.put, List.getElem_toArray, List.getElem_cons_succ, List.getElem_cons_zero, List.setIfInBounds_toArray, List.set_cons_zero, List.set_cons_succ]
        refine wpAnyH_done (by kernel_rfl) ?_ _
        have GZ := setRow_blk (A := #[.int .i64 fk, .slice xp xn xc]) G5
        clear hT0 hT2 hT3 hbal G5
        go_wp2_with fail
        go_meet
        exact ⟨w.heap.size, rfl, GZ, Nat.le_refl _, hbst⟩
      · skip
        refine wpOp_alloc_z rfl rfl _ rfl _ zero_pk ?_
        have hbal : Below w.heap.size w (w.drew.alloc (.cells #[.int .i64 0, .slice none 0 0] 34)) := below_drawn' (below_alloc w.drew _)
        have hT1 : (fun w' : World => w'.cell? ⟨bk, 4, none⟩ = some (.slice (some ⟨gd, od, none⟩) vn vc) ∧ w'.rangeAt gd (od + q * 2) [.int .i64 fk, .slice xp xn xc]) (w.drew.alloc (.cells #[.int .i64 0, .slice none 0 0] 34)) := ⟨cell_keep (w := w) hbal c4, range_below (w := w) hbal hgd HRQ.out⟩
        refine ⟨hT1, ?_⟩
        try dsimp only
        try simp only [Act.put, List.getElem_toArray, List.getElem_cons_succ, List.getElem_cons_zero, List.setIfInBounds_toArray, List.set_cons_zero, List.set_cons_succ]
        refine wpAnyH_all (rs := [10]) (by kernel_rfl) (by simp) ?_
        intro jj hjj
        simp only [List.mem_cons, List.not_mem_nil, or_false] at hjj
        subst hjj
        refine wpOp_of_wp rfl rfl ?_
        go_simp
        refine (pick_any kk vn _ hkk.1 hkk.2 hn1 (by omega)).mono ?_
        rintro e w2 ⟨rfl, hw2⟩
        subst hw2
        rw [HPQ.out]
        refine ⟨hT1, ?_⟩
        try dsimp only
        try simp only [Act.put, List.getElem_toArray, List.getElem_cons_succ, List.getElem_cons_zero, List.setIfInBounds_toArray, List.set_cons_zero, List.set_cons_succ]
        refine wpAnyH_take (i := 11) (v := (.pointer (some ⟨gd, od + q * 2, none⟩))) rfl (by kernel_rfl) (by kernel_rfl) (by kernel_rfl) (fun _ _ _ h => h) (Or.inl ⟨by rfl, fun wx hx => by go_simp⟩) hT1 ?_
        try dsimp only
        try simp only [Act.put, List.getElem_toArray, List.getElem_cons_succ, List.getElem_cons_zero, List.setIfInBounds_toArray, List.set_cons_zero, List.set_cons_succ]
        refine wpAnyH_take (i := 12) (v := (.agg #[.int .i64 fk, .slice xp xn xc])) rfl (by kernel_rfl) (by kernel_rfl) (by kernel_rfl) (fun _ _ _ h => h) (yieldsIf_load_pk_mid (by rfl) _ rfl _ _ rfl _ _ (fun wx hx => hx.2)) hT1 ?_
        try dsimp only
        try simp only [Act.put, List.getElem_toArray, List.getElem_cons_succ, List.getElem_cons_zero, List.setIfInBounds_toArray, List.set_cons_zero, List.set_cons_succ]
        refine wpAnyH_all (rs := [14]) (by kernel_rfl) (by simp) ?_
        intro jj hjj
        simp only [List.mem_cons, List.not_mem_nil, or_false] at hjj
        subst hjj
        have G5 := heap_alloc_new w.drew (.cells #[.int .i64 0, .slice none 0 0] 34)
        refine wpOp_store_row rfl rfl _ _ _ rfl #[.int .i64 fk, .slice xp xn xc] rfl rfl G5 info_pk rfl (by simp [Value.oneCell']) ?_
        have hbst : Below w.heap.size w ((w.drew.alloc (.cells #[.int .i64 0, .slice none 0 0] 34)).setRow w.heap.size #[.int .i64 fk, .slice xp xn xc]) := below_setRow _ hbal (Nat.le_refl _)
        have hT3 : (fun w' : World => w'.cell? ⟨bk, 4, none⟩ = some (.slice (some ⟨gd, od, none⟩) vn vc) ∧ w'.rangeAt gd (od + q * 2) [.int .i64 fk, .slice xp xn xc]) ((w.drew.alloc (.cells #[.int .i64 0, .slice none 0 0] 34)).setRow w.heap.size #[.int .i64 fk, .slice xp xn xc]) := ⟨cell_keep (w := w) hbst c4, range_below (w := w) hbst hgd HRQ.out⟩
        refine ⟨hT3, ?_⟩
        try dsimp only
        try simp only [Act.put, List.getElem_toArray, List.getElem_cons_succ, List.getElem_cons_zero, List.setIfInBounds_toArray, List.set_cons_zero, List.set_cons_succ]
        refine wpAnyH_done (by kernel_rfl) ?_ _
        have GZ := setRow_blk (A := #[.int .i64 fk, .slice xp xn xc]) G5
        clear hT0 hT1 hT3 hbal G5
        go_wp2_with fail
        go_meet
        exact ⟨w.heap.size, rfl, GZ, Nat.le_refl _, hbst⟩
    case rest =>
      obtain ⟨gp, rfl, gP, hgp, hb2⟩ := hcut
      rename World => w2
      have GP : Hid (w2.heap[gp]? = some (.cells #[.int .i64 fk, .slice xp xn xc] 34)) := gP
      have HB2 : Hid (Below w.heap.size w w2) := hb2
      have x0 : w2.cell? ⟨gp, 0, none⟩ = some (.int .i64 fk) := by rw [cell_of_row _ _ _ _ _ _ gP]; rfl
      have d1 : w2.cell? ⟨bk, 1, none⟩ = some (.slice (some ⟨gt, ot, none⟩) tn tc) := cell_keep hb2 c1
      have d0 : w2.cell? ⟨bk, 0, none⟩ = some (.pointer (some ⟨bs, 0, none⟩)) := cell_keep hb2 c0
      have dt : w2.cell? ⟨gt, ot + fk, none⟩ = some (.int .i64 up) := cell_keep hb2 ct
      have hgp2 : gp < w2.heap.size := lt_of_blk gP
      have hs2 := hb2.size
      clear gP hb2 c0 c1 c4 ct
      go_upto_region 4 with fail
      have hT0 : (fun w' : World => w'.cell? ⟨gp, 0, none⟩ = some (.int .i64 fk) ∧ w'.cell? ⟨bk, 1, none⟩ = some (.slice (some ⟨gt, ot, none⟩) tn tc)) w2.drew := ⟨x0, d1⟩
      refine wp_region_held (S := fun w' : World => w'.cell? ⟨gp, 0, none⟩ = some (.int .i64 fk) ∧ w'.cell? ⟨bk, 1, none⟩ = some (.slice (some ⟨gt, ot, none⟩) tn tc)) mixed ?_
      refine wpAnyH_take (i := 0) (v := (.pointer (some ⟨gp, 0, none⟩))) rfl (by kernel_rfl) (by kernel_rfl) (by kernel_rfl) (fun _ _ _ h => h) (Or.inl ⟨by rfl, fun wx hx => by go_simp⟩) hT0 ?_
      try dsimp only
      try simp only [Act.put, List.getElem_toArray, List.getElem_cons_succ, List.getElem_cons_zero, List.setIfInBounds_toArray, List.set_cons_zero, List.set_cons_succ]
      refine wpAnyH_take (i := 1) (v := (.int .i64 fk)) rfl (by kernel_rfl) (by kernel_rfl) (by kernel_rfl) (fun _ _ _ h => h) (Or.inl ⟨by rfl, fun wx hx => by have hx1 := hx.1; go_simp⟩) hT0 ?_
      try dsimp only
      try simp only [Act.put, List.getElem_toArray, List.getElem_cons_succ, List.getElem_cons_zero, List.setIfInBounds_toArray, List.set_cons_zero, List.set_cons_succ]
      refine wpAnyH_take (i := 2) (v := (.bool false)) rfl (by kernel_rfl) (by kernel_rfl) (by kernel_rfl) (fun _ _ _ h => h) (Or.inl ⟨by rfl, fun wx hx => by go_simp⟩) hT0 ?_
      try dsimp only
      try simp only [Act.put, List.getElem_toArray, List.getElem_cons_succ, List.getElem_cons_zero, List.setIfInBounds_toArray, List.set_cons_zero, List.set_cons_succ]
      refine wpAnyH_take (i := 3) (v := (.bool false)) rfl (by kernel_rfl) (by kernel_rfl) (by kernel_rfl) (fun _ _ _ h => h) (Or.inl ⟨by rfl, fun wx hx => by go_simp⟩) hT0 ?_
      try dsimp only
      try simp only [Act.put, List.getElem_toArray, List.getElem_cons_succ, List.getElem_cons_zero, List.setIfInBounds_toArray, List.set_cons_zero, List.set_cons_succ]
      refine wpAnyH_take (i := 4) (v := (.pointer (some ⟨gp, 0, none⟩))) rfl (by kernel_rfl) (by kernel_rfl) (by kernel_rfl) (fun _ _ _ h => h) (Or.inl ⟨by rfl, fun wx hx => by go_simp⟩) hT0 ?_
      try dsimp only
      try simp only [Act.put, List.getElem_toArray, List.getElem_cons_succ, List.getElem_cons_zero, List.setIfInBounds_toArray, List.set_cons_zero, List.set_cons_succ]
      refine wpAnyH_take (i := 5) (v := (.int .i64 fk)) rfl (by kernel_rfl) (by kernel_rfl) (by kernel_rfl) (fun _ _ _ h => h) (Or.inl ⟨by rfl, fun wx hx => by have hx1 := hx.1; go_simp⟩) hT0 ?_
      try dsimp only
      try simp only [Act.put, List.getElem_toArray, List.getElem_cons_succ, List.getElem_cons_zero, List.setIfInBounds_toArray, List.set_cons_zero, List.set_cons_succ]
      refine wpAnyH_take (i := 6) (v := (.pointer (some ⟨bk, 0, none⟩))) rfl (by kernel_rfl) (by kernel_rfl) (by kernel_rfl) (fun _ _ _ h => h) (Or.inl ⟨by rfl, fun wx hx => by go_simp⟩) hT0 ?_
      try dsimp only
      try simp only [Act.put, List.getElem_toArray, List.getElem_cons_succ, List.getElem_cons_zero, List.setIfInBounds_toArray, List.set_cons_zero, List.set_cons_succ]
      refine wpAnyH_take (i := 7) (v := (.pointer (some ⟨bk, 0, none⟩))) rfl (by kernel_rfl) (by kernel_rfl) (by kernel_rfl) (fun _ _ _ h => h) (Or.inl ⟨by rfl, fun wx hx => by go_simp⟩) hT0 ?_
      try dsimp only
      try simp only [Act.put, List.getElem_toArray, List.getElem_cons_succ, List.getElem_cons_zero, List.setIfInBounds_toArray, List.set_cons_zero, List.set_cons_succ]
      refine wpAnyH_take (i := 8) (v := (.pointer (some ⟨bk, 1, none⟩))) rfl (by kernel_rfl) (by kernel_rfl) (by kernel_rfl) (fun _ _ _ h => h) (Or.inl ⟨by rfl, fun wx hx => by go_simp⟩) hT0 ?_
      try dsimp only
      try simp only [Act.put, List.getElem_toArray, List.getElem_cons_succ, List.getElem_cons_zero, List.setIfInBounds_toArray, List.set_cons_zero, List.set_cons_succ]
      refine wpAnyH_take (i := 9) (v := (.slice (some ⟨gt, ot, none⟩) tn tc)) rfl (by kernel_rfl) (by kernel_rfl) (by kernel_rfl) (fun _ _ _ h => h) (Or.inl ⟨by rfl, fun wx hx => by have hx1 := hx.2; go_simp⟩) hT0 ?_
      try dsimp only
      try simp only [Act.put, List.getElem_toArray, List.getElem_cons_succ, List.getElem_cons_zero, List.setIfInBounds_toArray, List.set_cons_zero, List.set_cons_succ]
      refine wpAnyH_take (i := 10) (v := (.int .i64 tn)) rfl (by kernel_rfl) (by kernel_rfl) (by kernel_rfl) (fun _ _ _ h => h) (Or.inl ⟨by rfl, fun wx hx => by go_simp⟩) hT0 ?_
      try dsimp only
      try simp only [Act.put, List.getElem_toArray, List.getElem_cons_succ, List.getElem_cons_zero, List.setIfInBounds_toArray, List.set_cons_zero, List.set_cons_succ]
      refine wpAnyH_take (i := 11) (v := (.bool false)) rfl (by kernel_rfl) (by kernel_rfl) (by kernel_rfl) (fun _ _ _ h => h) (Or.inl ⟨by rfl, fun wx hx => by go_simp⟩) hT0 ?_
      try dsimp only
      try simp only [Act.put, List.getElem_toArray, List.getElem_cons_succ, List.getElem_cons_zero, List.setIfInBounds_toArray, List.set_cons_zero, List.set_cons_succ]
      refine wpAnyH_take (i := 12) (v := (.bool false)) rfl (by kernel_rfl) (by kernel_rfl) (by kernel_rfl) (fun _ _ _ h => h) (Or.inl ⟨by rfl, fun wx hx => by go_simp⟩) hT0 ?_
      try dsimp only
      try simp only [Act.put, List.getElem_toArray, List.getElem_cons_succ, List.getElem_cons_zero, List.setIfInBounds_toArray, List.set_cons_zero, List.set_cons_succ]
      refine wpAnyH_done (by kernel_rfl) ?_ _
      clear hT0
      obtain ⟨w3, hw3⟩ : ∃ w3, w3 = w2.drew := ⟨_, rfl⟩
      have HB3 : Hid (Below w2.heap.size w2 w3) := by unfold Hid; rw [hw3]; exact below_drew
      show Exit.then _ _ Exit.normal _ w2.drew
      rw [← hw3]
      clear hw3
      replace x0 := cell_keep HB3.out x0
      replace d1 := cell_keep HB3.out d1
      replace d0 := cell_keep HB3.out d0
      replace dt := cell_keep HB3.out dt
      have G3 : Hid (w3.heap[gp]? = some (.cells #[.int .i64 fk, .slice xp xn xc] 34)) := keep HB3.out GP.out
      have HBA : Hid (Below w.heap.size w w3) := bnext HB2.out HB3.out
      obtain ⟨own2, hown2⟩ : ∃ own2 : Ghost, own2 = fun j => if j = gp then .arg else own j := ⟨_, rfl⟩
      have HOG : Hid (own2 gp = .arg) := by unfold Hid; rw [hown2]; exact if_pos rfl
      have HOW : Hid (∀ j, j < w.heap.size → own2 j = own j) := fun j hj => by rw [hown2]; exact if_neg (by omega)
      have HG3 : Hid (KD SR w3 own2 B0 bk bs t wid m D vt vs vl C PK A) := HG.out.chg HR.out (S := fun _ => False) (Fr.of_below HBA.out) (fun j hj _ => HOW.out j hj) (fun _ h => h.elim)
      have HGT : Hid (own2 gt = .wd 0 ∧ own2 bk = .gm) := ⟨by rw [HOW.out gt hgt]; exact tgt, by rw [HOW.out bk hbk]; exact HGM.out⟩
      have hgt3 : gt < w3.heap.size := by have := HBA.out.size; omega
      have hbk3 : bk < w3.heap.size := by have := HBA.out.size; omega
      clear hown2
      go_upto_region 6 with fail
      have hT0 : (fun w' : World => w'.cell? ⟨bk, 0, none⟩ = some (.pointer (some ⟨bs, 0, none⟩)) ∧ w'.cell? ⟨bk, 1, none⟩ = some (.slice (some ⟨gt, ot, none⟩) tn tc) ∧ w'.heap[gp]? = some (.cells #[.int .i64 fk, .slice xp xn xc] 34) ∧ w'.cell? ⟨gp, 0, none⟩ = some (.int .i64 fk) ∧ w'.cell? ⟨gt, ot + fk, none⟩ = some (.int .i64 up)) w3.drew := ⟨d0, d1, G3.out, x0, dt⟩
      refine wp_region_held (S := fun w' : World => w'.cell? ⟨bk, 0, none⟩ = some (.pointer (some ⟨bs, 0, none⟩)) ∧ w'.cell? ⟨bk, 1, none⟩ = some (.slice (some ⟨gt, ot, none⟩) tn tc) ∧ w'.heap[gp]? = some (.cells #[.int .i64 fk, .slice xp xn xc] 34) ∧ w'.cell? ⟨gp, 0, none⟩ = some (.int .i64 fk) ∧ w'.cell? ⟨gt, ot + fk, none⟩ = some (.int .i64 up)) mixed ?_
      refine wpAnyH_take (i := 0) (v := (.pointer (some ⟨bk, 0, none⟩))) rfl (by kernel_rfl) (by kernel_rfl) (by kernel_rfl) (fun _ _ _ h => h) (Or.inl ⟨by rfl, fun wx hx => by go_simp⟩) hT0 ?_
      try dsimp only
      try simp only [Act.put, List.getElem_toArray, List.getElem_cons_succ, List.getElem_cons_zero, List.setIfInBounds_toArray, List.set_cons_zero, List.set_cons_succ]
      refine wpAnyH_take (i := 1) (v := (.pointer (some ⟨bk, 0, none⟩))) rfl (by kernel_rfl) (by kernel_rfl) (by kernel_rfl) (fun _ _ _ h => h) (Or.inl ⟨by rfl, fun wx hx => by go_simp⟩) hT0 ?_
      try dsimp only
      try simp only [Act.put, List.getElem_toArray, List.getElem_cons_succ, List.getElem_cons_zero, List.setIfInBounds_toArray, List.set_cons_zero, List.set_cons_succ]
      refine wpAnyH_take (i := 2) (v := (.pointer (some ⟨bk, 0, none⟩))) rfl (by kernel_rfl) (by kernel_rfl) (by kernel_rfl) (fun _ _ _ h => h) (Or.inl ⟨by rfl, fun wx hx => by go_simp⟩) hT0 ?_
      try dsimp only
      try simp only [Act.put, List.getElem_toArray, List.getElem_cons_succ, List.getElem_cons_zero, List.setIfInBounds_toArray, List.set_cons_zero, List.set_cons_succ]
      refine wpAnyH_take (i := 3) (v := (.pointer (some ⟨bs, 0, none⟩))) rfl (by kernel_rfl) (by kernel_rfl) (by kernel_rfl) (fun _ _ _ h => h) (Or.inl ⟨by rfl, fun wx hx => by have hx1 := hx.1; go_simp⟩) hT0 ?_
      try dsimp only
      try simp only [Act.put, List.getElem_toArray, List.getElem_cons_succ, List.getElem_cons_zero, List.setIfInBounds_toArray, List.set_cons_zero, List.set_cons_succ]
      refine wpAnyH_take (i := 4) (v := (.pointer (some ⟨bk, 0, none⟩))) rfl (by kernel_rfl) (by kernel_rfl) (by kernel_rfl) (fun _ _ _ h => h) (Or.inl ⟨by rfl, fun wx hx => by go_simp⟩) hT0 ?_
      try dsimp only
      try simp only [Act.put, List.getElem_toArray, List.getElem_cons_succ, List.getElem_cons_zero, List.setIfInBounds_toArray, List.set_cons_zero, List.set_cons_succ]
      refine wpAnyH_take (i := 5) (v := (.pointer (some ⟨bk, 0, none⟩))) rfl (by kernel_rfl) (by kernel_rfl) (by kernel_rfl) (fun _ _ _ h => h) (Or.inl ⟨by rfl, fun wx hx => by go_simp⟩) hT0 ?_
      try dsimp only
      try simp only [Act.put, List.getElem_toArray, List.getElem_cons_succ, List.getElem_cons_zero, List.setIfInBounds_toArray, List.set_cons_zero, List.set_cons_succ]
      refine wpAnyH_take (i := 6) (v := (.pointer (some ⟨bk, 1, none⟩))) rfl (by kernel_rfl) (by kernel_rfl) (by kernel_rfl) (fun _ _ _ h => h) (Or.inl ⟨by rfl, fun wx hx => by go_simp⟩) hT0 ?_
      try dsimp only
      try simp only [Act.put, List.getElem_toArray, List.getElem_cons_succ, List.getElem_cons_zero, List.setIfInBounds_toArray, List.set_cons_zero, List.set_cons_succ]
      refine wpAnyH_take (i := 7) (v := (.slice (some ⟨gt, ot, none⟩) tn tc)) rfl (by kernel_rfl) (by kernel_rfl) (by kernel_rfl) (fun _ _ _ h => h) (Or.inl ⟨by rfl, fun wx hx => by have hx1 := hx.2.1; go_simp⟩) hT0 ?_
      try dsimp only
      try simp only [Act.put, List.getElem_toArray, List.getElem_cons_succ, List.getElem_cons_zero, List.setIfInBounds_toArray, List.set_cons_zero, List.set_cons_succ]
      refine wpAnyH_take (i := 8) (v := (.pointer (some ⟨gp, 0, none⟩))) rfl (by kernel_rfl) (by kernel_rfl) (by kernel_rfl) (fun _ _ _ h => h) (Or.inl ⟨by rfl, fun wx hx => by go_simp⟩) hT0 ?_
      try dsimp only
      try simp only [Act.put, List.getElem_toArray, List.getElem_cons_succ, List.getElem_cons_zero, List.setIfInBounds_toArray, List.set_cons_zero, List.set_cons_succ]
      refine wpAnyH_take (i := 9) (v := (.int .i64 fk)) rfl (by kernel_rfl) (by kernel_rfl) (by kernel_rfl) (fun _ _ _ h => h) (Or.inl ⟨by rfl, fun wx hx => by have hx1 := hx.2.2.2.1; go_simp⟩) hT0 ?_
      try dsimp only
      try simp only [Act.put, List.getElem_toArray, List.getElem_cons_succ, List.getElem_cons_zero, List.setIfInBounds_toArray, List.set_cons_zero, List.set_cons_succ]
      refine wpAnyH_take (i := 10) (v := (.pointer (some ⟨gt, ot + fk, none⟩))) rfl (by kernel_rfl) (by kernel_rfl) (by kernel_rfl) (fun _ _ _ h => h) (Or.inl ⟨by rfl, fun wx hx => by go_simp⟩) hT0 ?_
      try dsimp only
      try simp only [Act.put, List.getElem_toArray, List.getElem_cons_succ, List.getElem_cons_zero, List.setIfInBounds_toArray, List.set_cons_zero, List.set_cons_succ]
      refine wpAnyH_take (i := 11) (v := (.int .i64 up)) rfl (by kernel_rfl) (by kernel_rfl) (by kernel_rfl) (fun _ _ _ h => h) (Or.inl ⟨by rfl, fun wx hx => by have hx1 := hx.2.2.2.2; go_simp⟩) hT0 ?_
      try dsimp only
      try simp only [Act.put, List.getElem_toArray, List.getElem_cons_succ, List.getElem_cons_zero, List.setIfInBounds_toArray, List.set_cons_zero, List.set_cons_succ]
      refine wpAnyH_take (i := 12) (v := (.agg #[.int .i64 fk, .slice xp xn xc])) rfl (by kernel_rfl) (by kernel_rfl) (by kernel_rfl) (fun _ _ _ h => h) (yieldsIf_load_pk (by rfl) _ rfl _ rfl _ _ (fun wx hx => hx.2.2.1)) hT0 ?_
      try dsimp only
      try simp only [Act.put, List.getElem_toArray, List.getElem_cons_succ, List.getElem_cons_zero, List.setIfInBounds_toArray, List.set_cons_zero, List.set_cons_succ]
      refine wpAnyH_all (rs := [13]) (by kernel_rfl) (by simp) ?_
      intro jj hjj
      simp only [List.mem_cons, List.not_mem_nil, or_false] at hjj
      subst hjj
      refine wpOp_of_wp rfl rfl ?_
      go_simp
      refine (HQ.out.deliver w3.drew own2 B0 bs t wid D (HR.out.below' HG3.out.st below_drew) (HG3.out.di.mono' (by omega)) HG3.out.b0 up fk p.2 xp xn xc ⟨by have := HUB.out; omega, by have := HUB.out; omega⟩ ⟨by omega, by omega⟩ HPA.out.2.2.1 ((HPA.out.2.2.2.1.below HBA.out).below below_drew) HPA.out.2.2.2.2.1.ok (by omega) (fun b off e => by
        obtain ⟨h1, h2⟩ := HPA.out.2.2.2.2.2 b off e
        rw [HOW.out b h1, h2]; exact ⟨by simp, fun i => by simp⟩)).mono ?_
      rintro e w5 ⟨rfl, own5, hst5, hsm5, hfr5⟩
      rw [HDE.out]
      replace hfr5 : Fr own2 isSt w3 w5 := ⟨hfr5.os, hfr5.tape, hfr5.output, hfr5.size, hfr5.block⟩
      replace hsm5 : Same w3 own2 own5 := hsm5
      have ng : own2 gp ≠ .free ∧ ¬ isSt (own2 gp) := by rw [HOG.out]; exact ⟨by simp, fun ⟨i, e⟩ => by simp at e⟩
      have nt : own2 gt ≠ .free ∧ ¬ isSt (own2 gt) := by rw [HGT.out.1]; exact ⟨by simp, fun ⟨i, e⟩ => by simp at e⟩
      have nb : own2 bk ≠ .free ∧ ¬ isSt (own2 bk) := by rw [HGT.out.2]; exact ⟨by simp, fun ⟨i, e⟩ => by simp at e⟩
      have hT1 : (fun w' : World => w'.cell? ⟨bk, 0, none⟩ = some (.pointer (some ⟨bs, 0, none⟩)) ∧ w'.cell? ⟨bk, 1, none⟩ = some (.slice (some ⟨gt, ot, none⟩) tn tc) ∧ w'.heap[gp]? = some (.cells #[.int .i64 fk, .slice xp xn xc] 34) ∧ w'.cell? ⟨gp, 0, none⟩ = some (.int .i64 fk) ∧ w'.cell? ⟨gt, ot + fk, none⟩ = some (.int .i64 up)) w5 := ⟨cell_fr' hfr5 d0 nb.1 nb.2, cell_fr' hfr5 d1 nb.1 nb.2, by rw [hfr5.block gp (lt_of_blk G3.out) ng.1 ng.2]; exact G3.out, cell_fr' hfr5 x0 ng.1 ng.2, cell_fr' hfr5 dt nt.1 nt.2⟩
      refine ⟨hT1, ?_⟩
      try dsimp only
      try simp only [Act.put, List.getElem_toArray, List.getElem_cons_succ, List.getElem_cons_zero, List.setIfInBounds_toArray, List.set_cons_zero, List.set_cons_succ]
      refine wpAnyH_take (i := 14) (v := (.bool true)) rfl (by kernel_rfl) (by kernel_rfl) (by kernel_rfl) (fun _ _ _ h => h) (Or.inl ⟨by rfl, fun wx hx => by go_simp⟩) hT1 ?_
      try dsimp only
      try simp only [Act.put, List.getElem_toArray, List.getElem_cons_succ, List.getElem_cons_zero, List.setIfInBounds_toArray, List.set_cons_zero, List.set_cons_succ]
      refine wpAnyH_take (i := 15) (v := (.bool true)) rfl (by kernel_rfl) (by kernel_rfl) (by kernel_rfl) (fun _ _ _ h => h) (Or.inl ⟨by rfl, fun wx hx => by go_simp⟩) hT1 ?_
      try dsimp only
      try simp only [Act.put, List.getElem_toArray, List.getElem_cons_succ, List.getElem_cons_zero, List.setIfInBounds_toArray, List.set_cons_zero, List.set_cons_succ]
      refine wpAnyH_done (by kernel_rfl) ?_ _
      have Z : Hid (KN SR B0 bk bs t wid m (delD t D (t.getD p.1.toNat 0) p.1 p.2) A w own w5) := by
        refine KN.mk HBA.out HOW.out (kdel_done HG3.out p (inv_deliver HG3.out.inv HG3.out.T HPA.out.1) ?_ hsm5 hfr5)
        rw [HUP.out, HPA.out.2.1]; exact hst5
      clear hT0 hT1 hst5 hsm5 hfr5 ng nt nb x0 d0 d1 dt
      go_wp2
      go_ret
      exact ⟨rfl, _, .inr ⟨p, HPA.out.1, rfl⟩, Z.out⟩
end Go.Proofs.Ytpglbakcjihohab
