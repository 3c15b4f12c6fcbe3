/-
  Shuffled: in what order and how often packets come is nothing to what the root knows in the end.
-/
import Derived.Test.YtpglbakcjihohabRows
import Derived.Test.YtpglbakcjihohabPart9
set_option linter.unusedSimpArgs false
set_option linter.unusedVariables false
set_option linter.deprecated false
namespace Go.Proofs.Ytpglbakcjihohab
open Go.RowKit
set_option maxRecDepth 100000

section
variable {ops : Array Oper} {rest : List Oper} {o : Oper} {a : Act} {w : World} {Q : Exit → Act → World → Prop}
theorem load_pk_mid (hgd : o.guard = none) (x : Operand) (ho : o.op = .load 34 x) (g off : Nat) (hx : a.eval x = .pointer (some ⟨g, off, none⟩)) (u v : Value)
    (hg : w.rangeAt g off [u, v]) (h : wpList Try.prog ops Q rest (a.put o.dst (.agg #[u, v])) w) : wpList Try.prog ops Q (o :: rest) a w :=
  wpList_step fun K hK => by
    rw [if_pos (by unfold Region.wanted; rw [hgd])]
    exact wp_load_pk_mid x ho g off hx u v hg (hK _ _ h)
theorem build1_pk (hgd : o.guard = none) (x : Operand) (ho : o.op = .buildSlice 27 1 #[(0, x)]) (e : Pk) (hx : a.eval x = .agg #[.int .i64 e.fr, .slice e.s.p e.s.n e.s.c])
    (h : RowsAt clPk (w.alloc (.cells (flat clPk [e]).toArray 34)) (some ⟨w.heap.size, 0, none⟩) [e] → wpList Try.prog ops Q rest (a.put o.dst (.slice (some ⟨w.heap.size, 0, none⟩) 1 1)) (w.alloc (.cells (flat clPk [e]).toArray 34))) : wpList Try.prog ops Q (o :: rest) a w :=
  wpList_buildCl hgd _ _ 32 slPk 1 _ ho [.agg #[.int .i64 e.fr, .slice e.s.p e.s.n e.s.c]] [e] (by simp [hx]) (by rfl) rfl (by decide) (by decide) h
theorem append_pk (hgd : o.guard = none) (s x : Operand) (ho : o.op = .call { callee := .builtin .append, args := #[s, x], argTypes := #[27, 27] }) (base : Nat) (v : Value) (l : List Pk) (hs : a.eval s = v) (hown : Own clPk w base 34 v l)
    (p : Option Addr) (m c : Nat) (ms : List Pk) (hx : a.eval x = .slice p m c) (hm : ms.length = m) (hg : RowsAt clPk w p ms) (hpos : 0 < m) (hl : l.length + m ≤ 1000000000) (hbase : base ≤ w.heap.size)
    (h : ∀ v' w', Own clPk w' base 34 v' (l ++ ms) → w.grownBy w' v.ownBlock → wpList Try.prog ops Q rest (a.put o.dst v') w') : wpList Try.prog ops Q (o :: rest) a w :=
  wpList_append_cl hgd s x _ _ 32 ho slPk base v l hs hown p m c ms hx hm hg hpos (by simp only [maxLen]; omega) (by omega) hbase fun v' w' h1 _ h2 _ _ => h v' w' h1 h2
end
theorem rows_of {α : Type} {C : Cl α} {w : World} {p : Option Addr} {l : List α} (h : RowsAt C w p l) {b off : Nat} (e : p = some ⟨b, off, none⟩) (h0 : 0 < l.length) : b < w.heap.size := by
  obtain ⟨b', off', e', hb, _⟩ := h.pos 0 h0
  rw [e] at e'
  cases e'
  exact hb
theorem pkg_app {w : World} {t : List Int} {A : List (Int × List It)} {L : List Pk} {AL : List (Int × List It)} (hl : AL.length = L.length) (h : ∀ (j : Nat) (x : Pk) (q : Int × List It), L[j]? = some x → AL[j]? = some q → PkG w t A x q) {x : Pk} {q : Int × List It} (hx : PkG w t A x q) : ∀ (j : Nat) (y : Pk) (r : Int × List It), (L ++ [x])[j]? = some y → (AL ++ [q])[j]? = some r → PkG w t A y r := fun j y r hy hr => by
  rcases Nat.lt_or_ge j L.length with hj | hj
  · rw [List.getElem?_append_left hj] at hy
    rw [List.getElem?_append_left (by rw [hl]; exact hj)] at hr
    exact h j y r hy hr
  · rw [List.getElem?_append_right hj] at hy
    rw [List.getElem?_append_right (by rw [hl]; exact hj), hl] at hr
    have h0 : j - L.length = 0 := by
      have := (List.getElem?_eq_some_iff.1 hy).1
      simp at this; omega
    rw [h0] at hy hr
    simp at hy hr
    subst hy hr
    exact hx
/-- What has come to the second store behind i calls. -/
structure Cov (AL : List (Int × List It)) (s i : Nat) (F : List It) : Prop where
  sub : ∀ x ∈ F, x ∈ fl AL
  cov : ∀ (j : Nat) (q : Int × List It), AL[j]? = some q → s ≤ i + j → ∀ x ∈ q.2, x ∈ F
theorem Cov.next {AL : List (Int × List It)} {s i : Nat} {F : List It} (h : Cov AL s i F) {k : Nat} {q : Int × List It} (hk : AL[k]? = some q) (hc : ∀ j, j < AL.length → s ≤ i + 1 + j → s ≤ i + j ∨ j = k) : Cov AL s (i + 1) (F ++ q.2) := by
  refine ⟨fun x hx => ?_, fun j r hj hs x hx => ?_⟩
  · rcases List.mem_append.1 hx with hx | hx
    · exact h.sub x hx
    · exact mem_fl.2 ⟨q, List.mem_of_getElem? hk, hx⟩
  · rcases hc j (List.getElem?_eq_some_iff.1 hj).1 hs with e | e
    · exact List.mem_append_left _ (h.cov j r hj e x hx)
    · subst e
      rw [hj] at hk; cases hk
      exact List.mem_append_right _ hx
theorem Cov.all {AL : List (Int × List It)} {s i : Nat} {F : List It} (h : Cov AL s i F) (hi : s ≤ i) : ∀ x, x ∈ fl AL ↔ x ∈ F := fun x => by
  refine ⟨fun hx => ?_, h.sub x⟩
  obtain ⟨q, hq, hx⟩ := mem_fl.1 hx
  obtain ⟨j, hj⟩ := List.getElem?_of_mem hq
  exact h.cov j q hj (by omega) x hx
/-- A packet comes to one of two stores. -/
theorem two_deliver {SR : SRT} {t : List Int} {wid : Int} (P : PA SR) (hT : Tree t) {D : List Nd} {A : List (Int × List It)} (hinv : Inv t D A) {w0 wr : World} {b1 b2 : Nat} {F1 F2 : List It} {o1 o2 : Ghost} (h : TwoS SR t wid w0 b1 b2 F1 F2 wr o1 o2) (hF : ∀ x ∈ F1, ∃ p ∈ A, x ∈ p.2) {f : Int} {xp : Option Addr} {xn xc : Nat} {q : Int × List It} (hp : PkG w0 t A ⟨f, ⟨xp, xn, xc⟩⟩ q) :
    Calls Try.prog 9 #[.pointer (some ⟨b1, 0, none⟩), .int .i64 0, .agg #[.int .i64 f, .slice xp xn xc]] wr fun e w' => e = .returned (.int .i64 0) ∧ ∃ o1' o2', TwoS SR t wid w0 b1 b2 (F1 ++ q.2) F2 w' o1' o2' ∧ (wr.heap.size ≤ w'.heap.size ∧ ∀ k, k < wr.heap.size → o1 k = .arg → o2 k = .arg → o1' k = .arg ∧ o2' k = .arg ∧ w'.heap[k]? = wr.heap[k]?) := by
  obtain ⟨he, hg, hf⟩ := pk_ok hT hinv hp.m hp.up
  have hfr : f = q.1 := hp.fr
  have hn : q.2.length = xn := hp.n
  have hln := hg.len
  rw [← hfr] at he hf
  refine (P.J.deliver wr o1 w0.heap.size b1 t wid (rtD t F1) h.s1 (rtD_di (allIn_of hinv hF) _) h.bel.size 0 f q.2 xp xn xc ⟨by decide, by decide⟩ hf hn ((show RowsAt clIt w0 xp q.2 from hp.r).below h.bel) hg.ok (by omega) (fun b off e => ?_)).mono ?_
  · rw [(h.old b (hp.lt b off e)).1]; exact ⟨by simp, fun i => by simp⟩
  · rintro e w' ⟨rfl, hc⟩
    rw [rtD_del hT.pos F1 he] at hc
    rw [he]
    obtain ⟨a1, a2, a3, a4⟩ := h.step P.R hc
    obtain ⟨_, _, _, fr⟩ := hc
    exact ⟨rfl, a1, a2, a3, fr.size, a4⟩
theorem pins_on {wr w9 : World} {p5 p6 q1 q2 : Ghost} {xp yp : Option Addr} {X : List It} (h : (RowsAt clIt wr xp X ∧ RowsAt clIt wr yp X) ∧ (∀ b off, xp = some ⟨b, off, none⟩ → b < wr.heap.size ∧ p5 b = .arg ∧ p6 b = .arg) ∧ ∀ b off, yp = some ⟨b, off, none⟩ → b < wr.heap.size ∧ p5 b = .arg ∧ p6 b = .arg) (hs : wr.heap.size ≤ w9.heap.size) (hk : ∀ k, k < wr.heap.size → p5 k = .arg → p6 k = .arg → q1 k = .arg ∧ q2 k = .arg ∧ w9.heap[k]? = wr.heap[k]?) : (RowsAt clIt w9 xp X ∧ RowsAt clIt w9 yp X) ∧ (∀ b off, xp = some ⟨b, off, none⟩ → b < w9.heap.size ∧ q1 b = .arg ∧ q2 b = .arg) ∧ ∀ b off, yp = some ⟨b, off, none⟩ → b < w9.heap.size ∧ q1 b = .arg ∧ q2 b = .arg := by
  obtain ⟨⟨r1, r2⟩, h1, h2⟩ := h
  refine ⟨⟨r1.chg hs fun b off e => ?_, r2.chg hs fun b off e => ?_⟩, fun b off e => ?_, fun b off e => ?_⟩
  · obtain ⟨a1, a2, a3⟩ := h1 b off e; exact (hk b a1 a2 a3).2.2
  · obtain ⟨a1, a2, a3⟩ := h2 b off e; exact (hk b a1 a2 a3).2.2
  · obtain ⟨a1, a2, a3⟩ := h1 b off e; exact ⟨Nat.lt_of_lt_of_le a1 hs, (hk b a1 a2 a3).1, (hk b a1 a2 a3).2.1⟩
  · obtain ⟨a1, a2, a3⟩ := h2 b off e; exact ⟨Nat.lt_of_lt_of_le a1 hs, (hk b a1 a2 a3).1, (hk b a1 a2 a3).2.1⟩
theorem fl_in {A AL : List (Int × List It)} (h : ∀ q ∈ AL, q ∈ A) {F : List It} (hF : ∀ x ∈ F, x ∈ fl AL) : ∀ x ∈ F, ∃ p ∈ A, x ∈ p.2 := fun x hx => by
  obtain ⟨q, hq, hx⟩ := mem_fl.1 (hF x hx)
  exact ⟨q, h q hq, hx⟩
set_option maxHeartbeats 16000000 in
theorem kShuffled_any (SR : SRT) (P : PA SR) (raw : List Int) (hf : ∀ x ∈ raw, fitsI x) (p : Option Addr) (n c : Nat) (wd : Int) (hwd : fitsI wd) (ps : Option Addr) (sn sc : Nat) (steps : List KSt) (w : World) (hn : raw.length = n) (hr : RowsAt clInt w p raw) (hm : n ≤ 1048576) (hs : steps.length = sn) (hrs : RowsAt clKs w ps steps) (hsm : sn ≤ 1048576) (hok : ∀ x ∈ steps, x.Ok)
    (op : Option Addr) (on oc : Nat) (order : List Int) (hon : order.length = on) (hro : RowsAt clInt w op order) (hom : on ≤ 1048576) (hof : ∀ x ∈ order, fitsI x) :
    Calls Try.prog 3 #[.slice p n c, .int .i64 wd, .slice ps sn sc, .slice op on oc] w fun e w' => e = .returned (.bool true) ∧ Below w.heap.size w w' := by
  have HP : Hid (PA SR) := P
  have H : Hid ((∀ x ∈ raw, fitsI x) ∧ RowsAt clInt w p raw ∧ RowsAt clKs w ps steps ∧ ∀ x ∈ steps, x.Ok) := ⟨hf, hr, hrs, hok⟩
  have H2 : Hid (RowsAt clInt w op order ∧ ∀ x ∈ order, fitsI x) := ⟨hro, hof⟩
  clear P hf hr hrs hok hro hof
  obtain ⟨wid, hwid⟩ : ∃ wid, wid = widK wd := ⟨_, rfl⟩
  have HWID : Hid (wid = widK wd) := hwid
  have hwb : 1 ≤ wid ∧ wid ≤ 1000 := by have := pk_bd wd 1000 (by omega); rw [hwid]; unfold widK; omega
  obtain ⟨t, ht⟩ : ∃ t, t = trK raw := ⟨_, rfl⟩
  have HTT : Hid (t = trK raw) := ht
  have HT : Hid (Tree t) := by unfold Hid; rw [ht]; exact trK_tree raw
  have h8 := HT.out.le
  have hp1 := HT.out.pos
  obtain ⟨N, hN⟩ : ∃ N, t.length = N := ⟨_, rfl⟩
  have HN : Hid (t.length = N) := hN
  clear hwid ht
  go_enter Try.func3, Try.ntmps3
  go_wp2_with (first | (go_at_call 6; refine (kbegan_any SR HP.out.R raw H.out.1 p n c wd hwd w hn H.out.2.1 (by omega)).mono ?_; rintro e w1 ⟨hb1, bk, bs, own1, rfl, hk1, ha1⟩; rw [← HTT.out, ← HWID.out] at hk1; have HK : Hid (KO SR t wid w bk bs 0 (List.replicate t.length Nd.zero) [] w1 own1) := ⟨hk1, ha1, hb1⟩; clear hk1 ha1 hb1) | (go_at_call 7; refine (kplays_any SR HP.out w1 own1 w.heap.size bk bs t wid 0 _ [] HK.out.x ps sn sc steps hs (H.out.2.2.1.below HK.out.b) (by omega) H.out.2.2.2 (fun h0 b off e => HK.out.a b (rows_of H.out.2.2.1 e (by omega)))).mono ?_; rintro e w2 ⟨rfl, D, A, hkn2⟩; obtain ⟨own2, hko2, _, _⟩ := HK.out.next hkn2; have HK2 : Hid (KO SR t wid w bk bs (0 + sn) D A w2 own2) := hko2; clear hkn2 hko2))
  have HIV : Hid (Inv t D A) := HK2.out.x.inv
  obtain ⟨vt, vs, vl, C, PK, g⟩ := HK2.out.x
  obtain ⟨tp, tn, tc⟩ := vt
  obtain ⟨vp, vn, vc⟩ := vl
  have htr : t.length = tn ∧ RowsAt clInt w2 tp t := Own.sl (s := ⟨tp, tn, tc⟩) g.tr
  have C1 : Hid (w2.cell? ⟨bk, 1, none⟩ = some (.slice tp N tc)) := by unfold Hid; rw [cell_of_row _ _ _ _ _ _ g.run, ← hN, htr.1]; rfl
  have C2 : Hid (w2.cell? ⟨bk, 2, none⟩ = some (.int .i64 wid)) := by unfold Hid; rw [cell_of_row _ _ _ _ _ _ g.run]; rfl
  have C4 : Hid (w2.cell? ⟨bk, 4, none⟩ = some (.slice vp vn vc)) := by unfold Hid; rw [cell_of_row _ _ _ _ _ _ g.run]; rfl
  have HTR : Hid (RowsAt clInt w2 tp t) := htr.2
  have hpkl : PK.length = vn ∧ RowsAt clPk w2 vp PK := Own.sl (s := ⟨vp, vn, vc⟩) g.ol
  have HPK : Hid (PK.length = vn ∧ RowsAt clPk w2 vp PK ∧ A.length = PK.length ∧ ∀ (i : Nat) (x : Pk) (q : Int × List It), PK[i]? = some x → A[i]? = some q → PkIs w2 own2 x q) := ⟨hpkl.1, hpkl.2, g.la, g.pk⟩
  have hvn : vn ≤ 1048576 := by have := g.lp; omega
  have HB2 : Hid (Below w.heap.size w w2) := HK2.out.b
  clear g htr hpkl HK HK2
  go_loopw [11, 12] (fun v i wr => ∃ (k : Nat) (L : List Pk) (AL : List (Int × List It)), k ≤ vn ∧ i = .int .i64 k ∧ Own clPk wr w2.heap.size 34 v L ∧ L.length ≤ k ∧ AL.length = L.length ∧ (∀ (j : Nat) (x : Pk) (q : Int × List It), L[j]? = some x → AL[j]? = some q → PkG w2 t A x q) ∧ Below w2.heap.size w2 wr) (fun _ i _ => vn - (intOf i).toNat)
  case atStart => exact ⟨0, [], [], by omega, rfl, Own.nil _ _ _, by simp, rfl, fun j x q hx => by simp at hx, Below.refl _ _⟩
  case round =>
    obtain ⟨k, L, AL, hk, rfl, ho, hLk, hal, hpg, hb⟩ := hrel
    have HL : Hid (Own clPk wr w2.heap.size 34 u11 L ∧ AL.length = L.length ∧ (∀ (j : Nat) (x : Pk) (q : Int × List It), L[j]? = some x → AL[j]? = some q → PkG w2 t A x q) ∧ Below w2.heap.size w2 wr) := ⟨ho, hal, hpg, hb⟩
    have c1 := cell_keep hb C1.out
    have c2 := cell_keep hb C2.out
    have c4 := cell_keep hb C4.out
    clear ho hal hpg hb
    by_cases hlk : k < vn
    · obtain ⟨gd, od, rfl, hgd, hrg⟩ := HPK.out.2.1.pos k (by rw [HPK.out.1]; exact hlk)
      obtain ⟨⟨xf, ⟨xp, xn, xc⟩⟩, hxq⟩ : ∃ x, PK[k]? = some x := ⟨_, List.getElem?_eq_getElem (by rw [HPK.out.1]; exact hlk)⟩
      obtain ⟨q, hqA⟩ : ∃ q, A[k]? = some q := ⟨_, List.getElem?_eq_getElem (by rw [HPK.out.2.2.1, HPK.out.1]; exact hlk)⟩
      have hqm := List.mem_of_getElem? hqA
      have hpi := HPK.out.2.2.2 k _ q hxq hqA
      obtain ⟨p1, p2, _, _⟩ := HIV.out.pk q hqm
      have hf1 : xf = q.1 := hpi.1
      obtain ⟨fk, hfk⟩ : ∃ fk : Nat, xf = fk := ⟨xf.toNat, by omega⟩
      have HRQ : Hid (wr.rangeAt gd (od + k * 2) [.int .i64 fk, .slice xp xn xc]) := by
        have h1 : w2.rangeAt gd (od + k * 2) [.int .i64 xf, .slice xp xn xc] := hrg k _ hxq
        rw [hfk] at h1
        exact range_below HL.out.2.2.2 hgd h1
      have hfq : q.1 = fk := by omega
      obtain ⟨gt, ot, rfl, hgt, ct⟩ := HTR.out.int_at HL.out.2.2.2 fk (by omega)
      obtain ⟨up, hup⟩ : ∃ up, t.getD fk 0 = up := ⟨_, rfl⟩
      rw [← tree_get (by omega), hup] at ct
      have HPG : Hid (up = 0 → PkG w2 t A ⟨fk, ⟨xp, xn, xc⟩⟩ q) := fun hu => ⟨by rw [← hfk]; exact hpi.1, hpi.2.1, hpi.2.2.1, fun b off e => (hpi.2.2.2 b off e).1, hqm, by rw [hfq]; simpa [hu] using hup⟩
      have hd1 : decide (0 < fk) = true := by simp; omega
      have hd2 : decide (fk < N) = true := by simp; omega
      have hd3 : 0 < fk := by omega
      have hd4 : fk < N := by omega
      have q0 : (0 : Int) ≤ (fk : Int) := by omega
      have q1 : (fk : Int) < (N : Int) := by omega
      have k0 : (0 : Int) ≤ (k : Int) := by omega
      have k1 : (k : Int) < (vn : Int) := by omega
      have hLl : L.length ≤ 1048576 := by omega
      clear hrg hxq hqA hqm hpi p1 p2 hf1 hfk hfq hup
      go_upto_region 12 with (first | (refine load_pk_mid rfl _ rfl _ _ rfl _ _ (by exact HRQ.out) ?_) | (refine alloc_pk rfl rfl ?_) | (refine store_pk_new rfl _ _ rfl _ ⟨xp, xn, xc⟩ wr #[.int .i64 0, .slice none 0 0] rfl rfl rfl rfl ?_))
      obtain ⟨w4, hw4⟩ : ∃ w4, w4 = (wr.alloc (.cells #[.int .i64 0, .slice none 0 0] 34)).setRow wr.heap.size #[.int .i64 fk, .slice xp xn xc] := ⟨_, rfl⟩
      have HB4 : Hid (Below wr.heap.size wr w4) := by unfold Hid; rw [hw4]; exact below_setRow _ (below_alloc _ _) (Nat.le_refl _)
      have GP : Hid (w4.heap[wr.heap.size]? = some (.cells #[.int .i64 fk, .slice xp xn xc] 34)) := by unfold Hid; rw [hw4]; exact setRow_blk (heap_alloc_new _ _)
      have x0 : w4.cell? ⟨wr.heap.size, 0, none⟩ = some (.int .i64 fk) := by rw [cell_of_row _ _ _ _ _ _ GP.out]; rfl
      replace c1 := cell_keep HB4.out c1
      replace ct := cell_keep HB4.out ct
      rw [← hw4]
      clear hw4 c2 c4
      try dsimp only
      try simp only [Act.put, List.getElem_toArray, List.getElem_cons_succ, List.getElem_cons_zero, List.setIfInBounds_toArray, List.set_cons_zero, List.set_cons_succ]
      by_cases hu : up = 0
      · have hub : (up == 0) = true := by simp [hu]
        have HPG' : Hid (PkG w2 t A ⟨fk, ⟨xp, xn, xc⟩⟩ q) := HPG.out hu
        clear hu
        refine wp_region_still_lit mixed (by kernel_rfl) ?_
        repeat still_step
        refine wpStill_nil ?_
        clear x0 c1 ct
        have hs4 := HB4.out.size
        have hs2r : w2.heap.size ≤ wr.heap.size := HL.out.2.2.2.size
        go_wp2_with (first | (refine load_pk rfl _ rfl _ rfl _ _ (by exact GP.out) ?_) | (refine build1_pk rfl _ rfl ⟨fk, ⟨xp, xn, xc⟩⟩ rfl ?_; intro R1) | (at_builtin; refine append_pk rfl _ _ rfl w2.heap.size _ L rfl (by exact (HL.out.1.below (below_drawn HB4.out _)).below (below_alloc _ _)) _ 1 _ _ rfl rfl R1 (by omega) (by omega) (by simp; omega) ?_; intro v5 w5 o5 g5; have HL5 : Hid (Own clPk w5 w2.heap.size 34 v5 (L ++ [⟨fk, ⟨xp, xn, xc⟩⟩]) ∧ Below w2.heap.size w2 w5) := ⟨o5, (bnext HL.out.2.2.2 (bnext (below_drawn HB4.out _) (below_alloc _ _))).trans (grown_below g5 _ (by simp; omega) (fun k hk => (HL.out.1.lt k hk).1))⟩; clear o5 g5 R1))
        go_roundw
        case rel => exact ⟨k + 1, L ++ [⟨fk, ⟨xp, xn, xc⟩⟩], AL ++ [q], by omega, by go_num, HL5.out.1, by simp; omega, by simp [HL.out.2.1], pkg_app HL.out.2.1 HL.out.2.2.1 HPG'.out, HL5.out.2⟩
        case measure => simp [intOf]; omega
      · have hub : (up == 0) = false := by simp [hu]
        clear hu
        refine wp_region_still_lit mixed (by kernel_rfl) ?_
        repeat still_step
        refine wpStill_nil ?_
        clear x0 c1 ct
        go_wp2
        go_roundw
        case rel => exact ⟨k + 1, L, AL, by omega, by go_num, (HL.out.1.below HB4.out).chg (fun _ _ => rfl), by omega, HL.out.2.1, HL.out.2.2.1, below_drawn (bnext HL.out.2.2.2 HB4.out) _⟩
        case measure => simp [intOf]; omega
    · obtain rfl : vn = k := by omega
      obtain ⟨LN, hLN⟩ : ∃ LN, L.length = LN := ⟨_, rfl⟩
      obtain ⟨lp, lc, hu⟩ : ∃ lp lc, u11 = .slice lp LN lc := by
        obtain ⟨p', c', e, _⟩ := HL.out.1.form
        exact ⟨p', c', by rw [e, hLN]⟩
      subst hu
      have hL6 : LN ≤ 1048576 := by omega
      obtain ⟨w0, hw0⟩ : ∃ w0, w0 = wr := ⟨_, rfl⟩
      rw [← hw0] at HL c1 c2 c4
      have HG : Hid (L.length = LN ∧ AL.length = LN ∧ RowsAt clPk w0 lp L ∧ (∀ (j : Nat) (x : Pk) (q : Int × List It), L[j]? = some x → AL[j]? = some q → PkG w0 t A x q) ∧ (∀ q ∈ AL, q ∈ A) ∧ Below w.heap.size w w0) := by
        refine ⟨hLN, by rw [HL.out.2.1]; exact hLN, (Own.sl (s := ⟨lp, LN, lc⟩) HL.out.1).2, fun j x q hx hq => (HL.out.2.2.1 j x q hx hq).below HL.out.2.2.2, fun q hq => ?_, bnext HB2.out HL.out.2.2.2⟩
        obtain ⟨j, hj⟩ := List.getElem?_of_mem hq
        have hjl : j < L.length := by rw [← HL.out.2.1]; exact (List.getElem?_eq_some_iff.1 hj).1
        exact (HL.out.2.2.1 j _ q (List.getElem?_eq_getElem hjl) hj).m
      rw [← hw0]
      clear hw0 hlk hLk
      go_upto_region 14 with fail
      have hT0 : (fun w' : World => w'.cell? ⟨bk, 1, none⟩ = some (.slice tp N tc) ∧ w'.cell? ⟨bk, 2, none⟩ = some (.int .i64 wid)) w0.drew := ⟨c1, c2⟩
      refine wp_region_held (S := fun w' : World => w'.cell? ⟨bk, 1, none⟩ = some (.slice tp N tc) ∧ w'.cell? ⟨bk, 2, none⟩ = some (.int .i64 wid)) mixed ?_
      refine wpAnyH_take (i := 0) (v := (.pointer (some ⟨bk, 0, none⟩))) rfl (by kernel_rfl) (by kernel_rfl) (by kernel_rfl) (fun _ _ _ h => h) (Or.inl ⟨by rfl, fun wx hx => by go_simp⟩) hT0 ?_
      try dsimp only
      try simp only [Act.put, List.getElem_toArray, List.getElem_cons_succ, List.getElem_cons_zero, List.setIfInBounds_toArray, List.set_cons_zero, List.set_cons_succ]
      refine wpAnyH_take (i := 1) (v := (.pointer (some ⟨bk, 0, none⟩))) rfl (by kernel_rfl) (by kernel_rfl) (by kernel_rfl) (fun _ _ _ h => h) (Or.inl ⟨by rfl, fun wx hx => by go_simp⟩) hT0 ?_
      try dsimp only
      try simp only [Act.put, List.getElem_toArray, List.getElem_cons_succ, List.getElem_cons_zero, List.setIfInBounds_toArray, List.set_cons_zero, List.set_cons_succ]
      refine wpAnyH_take (i := 2) (v := (.pointer (some ⟨bk, 1, none⟩))) rfl (by kernel_rfl) (by kernel_rfl) (by kernel_rfl) (fun _ _ _ h => h) (Or.inl ⟨by rfl, fun wx hx => by go_simp⟩) hT0 ?_
      try dsimp only
      try simp only [Act.put, List.getElem_toArray, List.getElem_cons_succ, List.getElem_cons_zero, List.setIfInBounds_toArray, List.set_cons_zero, List.set_cons_succ]
      refine wpAnyH_take (i := 3) (v := (.slice tp N tc)) rfl (by kernel_rfl) (by kernel_rfl) (by kernel_rfl) (fun _ _ _ h => h) (Or.inl ⟨by rfl, fun wx hx => by have hx1 := hx.1; go_simp⟩) hT0 ?_
      try dsimp only
      try simp only [Act.put, List.getElem_toArray, List.getElem_cons_succ, List.getElem_cons_zero, List.setIfInBounds_toArray, List.set_cons_zero, List.set_cons_succ]
      refine wpAnyH_take (i := 4) (v := (.pointer (some ⟨bk, 0, none⟩))) rfl (by kernel_rfl) (by kernel_rfl) (by kernel_rfl) (fun _ _ _ h => h) (Or.inl ⟨by rfl, fun wx hx => by go_simp⟩) hT0 ?_
      try dsimp only
      try simp only [Act.put, List.getElem_toArray, List.getElem_cons_succ, List.getElem_cons_zero, List.setIfInBounds_toArray, List.set_cons_zero, List.set_cons_succ]
      refine wpAnyH_take (i := 5) (v := (.pointer (some ⟨bk, 0, none⟩))) rfl (by kernel_rfl) (by kernel_rfl) (by kernel_rfl) (fun _ _ _ h => h) (Or.inl ⟨by rfl, fun wx hx => by go_simp⟩) hT0 ?_
      try dsimp only
      try simp only [Act.put, List.getElem_toArray, List.getElem_cons_succ, List.getElem_cons_zero, List.setIfInBounds_toArray, List.set_cons_zero, List.set_cons_succ]
      refine wpAnyH_take (i := 6) (v := (.pointer (some ⟨bk, 2, none⟩))) rfl (by kernel_rfl) (by kernel_rfl) (by kernel_rfl) (fun _ _ _ h => h) (Or.inl ⟨by rfl, fun wx hx => by go_simp⟩) hT0 ?_
      try dsimp only
      try simp only [Act.put, List.getElem_toArray, List.getElem_cons_succ, List.getElem_cons_zero, List.setIfInBounds_toArray, List.set_cons_zero, List.set_cons_succ]
      refine wpAnyH_take (i := 7) (v := (.int .i64 wid)) rfl (by kernel_rfl) (by kernel_rfl) (by kernel_rfl) (fun _ _ _ h => h) (Or.inl ⟨by rfl, fun wx hx => by have hx1 := hx.2; go_simp⟩) hT0 ?_
      try dsimp only
      try simp only [Act.put, List.getElem_toArray, List.getElem_cons_succ, List.getElem_cons_zero, List.setIfInBounds_toArray, List.set_cons_zero, List.set_cons_succ]
      refine wpAnyH_all (rs := [8]) (by kernel_rfl) (by simp) ?_
      intro jj hjj
      simp only [List.mem_cons, List.not_mem_nil, or_false] at hjj
      subst hjj
      refine wpOp_of_wp rfl rfl ?_
      go_simp
      refine (kopened_any SR HP.out.R t HT.out wid hwb.1 hwb.2 tp N tc w0.drew HN.out ((HTR.out.below (show Below w2.heap.size w2 w0 from HL.out.2.2.2)).below below_drew)).mono ?_
      rintro e w5 ⟨hb, b1, rfl, hsr⟩
      replace hb : Below w0.heap.size w0 w5 := bnext below_drew hb
      have hT1 : (fun w' : World => w'.cell? ⟨bk, 1, none⟩ = some (.slice tp N tc) ∧ w'.cell? ⟨bk, 2, none⟩ = some (.int .i64 wid)) w5 := ⟨cell_keep hb c1, cell_keep hb c2⟩
      refine ⟨hT1, ?_⟩
      try dsimp only
      try simp only [Act.put, List.getElem_toArray, List.getElem_cons_succ, List.getElem_cons_zero, List.setIfInBounds_toArray, List.set_cons_zero, List.set_cons_succ]
      refine wpAnyH_take (i := 9) (v := (.pointer (some ⟨b1, 0, none⟩))) rfl (by kernel_rfl) (by kernel_rfl) (by kernel_rfl) (fun _ _ _ h => h) (Or.inl ⟨by rfl, fun wx hx => by go_simp⟩) hT1 ?_
      try dsimp only
      try simp only [Act.put, List.getElem_toArray, List.getElem_cons_succ, List.getElem_cons_zero, List.setIfInBounds_toArray, List.set_cons_zero, List.set_cons_succ]
      refine wpAnyH_done (by kernel_rfl) ?_ _
      have HOb1 : Hid (∀ (own : Ghost) (B0 : Nat), B0 ≤ w0.heap.size → ∃ own', SR w5 own' B0 b1 t wid (List.replicate t.length Nd.zero) ∧ Same w0 own own') := hsr
      have HBb1 : Hid (Below w0.heap.size w0 w5) := hb
      replace c1 := cell_keep hb c1
      replace c2 := cell_keep hb c2
      clear hT0 hT1 hb hsr
      go_upto_region 15 with fail
      have hT0 : (fun w' : World => w'.cell? ⟨bk, 1, none⟩ = some (.slice tp N tc) ∧ w'.cell? ⟨bk, 2, none⟩ = some (.int .i64 wid)) w5.drew := ⟨c1, c2⟩
      refine wp_region_held (S := fun w' : World => w'.cell? ⟨bk, 1, none⟩ = some (.slice tp N tc) ∧ w'.cell? ⟨bk, 2, none⟩ = some (.int .i64 wid)) mixed ?_
      refine wpAnyH_take (i := 0) (v := (.pointer (some ⟨bk, 0, none⟩))) rfl (by kernel_rfl) (by kernel_rfl) (by kernel_rfl) (fun _ _ _ h => h) (Or.inl ⟨by rfl, fun wx hx => by go_simp⟩) hT0 ?_
      try dsimp only
      try simp only [Act.put, List.getElem_toArray, List.getElem_cons_succ, List.getElem_cons_zero, List.setIfInBounds_toArray, List.set_cons_zero, List.set_cons_succ]
      refine wpAnyH_take (i := 1) (v := (.pointer (some ⟨bk, 0, none⟩))) rfl (by kernel_rfl) (by kernel_rfl) (by kernel_rfl) (fun _ _ _ h => h) (Or.inl ⟨by rfl, fun wx hx => by go_simp⟩) hT0 ?_
      try dsimp only
      try simp only [Act.put, List.getElem_toArray, List.getElem_cons_succ, List.getElem_cons_zero, List.setIfInBounds_toArray, List.set_cons_zero, List.set_cons_succ]
      refine wpAnyH_take (i := 2) (v := (.pointer (some ⟨bk, 1, none⟩))) rfl (by kernel_rfl) (by kernel_rfl) (by kernel_rfl) (fun _ _ _ h => h) (Or.inl ⟨by rfl, fun wx hx => by go_simp⟩) hT0 ?_
      try dsimp only
      try simp only [Act.put, List.getElem_toArray, List.getElem_cons_succ, List.getElem_cons_zero, List.setIfInBounds_toArray, List.set_cons_zero, List.set_cons_succ]
      refine wpAnyH_take (i := 3) (v := (.slice tp N tc)) rfl (by kernel_rfl) (by kernel_rfl) (by kernel_rfl) (fun _ _ _ h => h) (Or.inl ⟨by rfl, fun wx hx => by have hx1 := hx.1; go_simp⟩) hT0 ?_
      try dsimp only
      try simp only [Act.put, List.getElem_toArray, List.getElem_cons_succ, List.getElem_cons_zero, List.setIfInBounds_toArray, List.set_cons_zero, List.set_cons_succ]
      refine wpAnyH_take (i := 4) (v := (.pointer (some ⟨bk, 0, none⟩))) rfl (by kernel_rfl) (by kernel_rfl) (by kernel_rfl) (fun _ _ _ h => h) (Or.inl ⟨by rfl, fun wx hx => by go_simp⟩) hT0 ?_
      try dsimp only
      try simp only [Act.put, List.getElem_toArray, List.getElem_cons_succ, List.getElem_cons_zero, List.setIfInBounds_toArray, List.set_cons_zero, List.set_cons_succ]
      refine wpAnyH_take (i := 5) (v := (.pointer (some ⟨bk, 0, none⟩))) rfl (by kernel_rfl) (by kernel_rfl) (by kernel_rfl) (fun _ _ _ h => h) (Or.inl ⟨by rfl, fun wx hx => by go_simp⟩) hT0 ?_
      try dsimp only
      try simp only [Act.put, List.getElem_toArray, List.getElem_cons_succ, List.getElem_cons_zero, List.setIfInBounds_toArray, List.set_cons_zero, List.set_cons_succ]
      refine wpAnyH_take (i := 6) (v := (.pointer (some ⟨bk, 2, none⟩))) rfl (by kernel_rfl) (by kernel_rfl) (by kernel_rfl) (fun _ _ _ h => h) (Or.inl ⟨by rfl, fun wx hx => by go_simp⟩) hT0 ?_
      try dsimp only
      try simp only [Act.put, List.getElem_toArray, List.getElem_cons_succ, List.getElem_cons_zero, List.setIfInBounds_toArray, List.set_cons_zero, List.set_cons_succ]
      refine wpAnyH_take (i := 7) (v := (.int .i64 wid)) rfl (by kernel_rfl) (by kernel_rfl) (by kernel_rfl) (fun _ _ _ h => h) (Or.inl ⟨by rfl, fun wx hx => by have hx1 := hx.2; go_simp⟩) hT0 ?_
      try dsimp only
      try simp only [Act.put, List.getElem_toArray, List.getElem_cons_succ, List.getElem_cons_zero, List.setIfInBounds_toArray, List.set_cons_zero, List.set_cons_succ]
      refine wpAnyH_all (rs := [8]) (by kernel_rfl) (by simp) ?_
      intro jj hjj
      simp only [List.mem_cons, List.not_mem_nil, or_false] at hjj
      subst hjj
      refine wpOp_of_wp rfl rfl ?_
      go_simp
      refine (kopened_any SR HP.out.R t HT.out wid hwb.1 hwb.2 tp N tc w5.drew HN.out ((HTR.out.below (show Below w2.heap.size w2 w5 from bnext HL.out.2.2.2 HBb1.out)).below below_drew)).mono ?_
      rintro e w6 ⟨hb, b2, rfl, hsr⟩
      replace hb : Below w5.heap.size w5 w6 := bnext below_drew hb
      have hT1 : (fun w' : World => w'.cell? ⟨bk, 1, none⟩ = some (.slice tp N tc) ∧ w'.cell? ⟨bk, 2, none⟩ = some (.int .i64 wid)) w6 := ⟨cell_keep hb c1, cell_keep hb c2⟩
      refine ⟨hT1, ?_⟩
      try dsimp only
      try simp only [Act.put, List.getElem_toArray, List.getElem_cons_succ, List.getElem_cons_zero, List.setIfInBounds_toArray, List.set_cons_zero, List.set_cons_succ]
      refine wpAnyH_take (i := 9) (v := (.pointer (some ⟨b2, 0, none⟩))) rfl (by kernel_rfl) (by kernel_rfl) (by kernel_rfl) (fun _ _ _ h => h) (Or.inl ⟨by rfl, fun wx hx => by go_simp⟩) hT1 ?_
      try dsimp only
      try simp only [Act.put, List.getElem_toArray, List.getElem_cons_succ, List.getElem_cons_zero, List.setIfInBounds_toArray, List.set_cons_zero, List.set_cons_succ]
      refine wpAnyH_done (by kernel_rfl) ?_ _
      have HOb2 : Hid (∀ (own : Ghost) (B0 : Nat), B0 ≤ w5.heap.size → ∃ own', SR w6 own' B0 b2 t wid (List.replicate t.length Nd.zero) ∧ Same w5 own own') := hsr
      have HBb2 : Hid (Below w5.heap.size w5 w6) := hb
      replace c1 := cell_keep hb c1
      replace c2 := cell_keep hb c2
      clear hT0 hT1 hb hsr
      obtain ⟨o1, o2, hts⟩ := TwoS.start HP.out.R HBb1.out HBb2.out HOb1.out HOb2.out
      have HTS : Hid (TwoS SR t wid w0 b1 b2 [] [] w6 o1 o2) := hts
      clear hts c1 c2 c4 HOb1 HOb2 HBb1 HBb2 HL
      go_wp2
      go_loopw [16] (fun i wr => ∃ (k : Nat) (o1 o2 : Ghost), k ≤ LN ∧ i = .int .i64 k ∧ TwoS SR t wid w0 b1 b2 (fl (AL.take k)) [] wr o1 o2) (fun i _ => LN - (intOf i).toNat)
      case atStart => exact ⟨0, o1, o2, by omega, rfl, by simpa [fl] using HTS.out⟩
      case round =>
        obtain ⟨k, p1, p2, hk, rfl, hts⟩ := hrel
        have HT1 : Hid (TwoS SR t wid w0 b1 b2 (fl (AL.take k)) [] wr p1 p2) := hts
        clear hts
        by_cases hlk : k < LN
        · obtain ⟨gl, ol, rfl, hgl, hrg⟩ := HG.out.2.2.1.pos k (by rw [HG.out.1]; exact hlk)
          obtain ⟨⟨xf, ⟨xp, xn, xc⟩⟩, hx⟩ : ∃ x, L[k]? = some x := ⟨_, List.getElem?_eq_getElem (by rw [HG.out.1]; exact hlk)⟩
          obtain ⟨q, hq⟩ : ∃ q, AL[k]? = some q := ⟨_, List.getElem?_eq_getElem (by rw [HG.out.2.1]; exact hlk)⟩
          have HPG : Hid (PkG w0 t A ⟨xf, ⟨xp, xn, xc⟩⟩ q) := HG.out.2.2.2.1 k _ q hx hq
          have HRQ : Hid (wr.rangeAt gl (ol + k * 2) [.int .i64 xf, .slice xp xn xc]) := range_below HT1.out.bel hgl (hrg k _ hx)
          have HTK : Hid (fl (AL.take (k + 1)) = fl (AL.take k) ++ q.2) := fl_take hq
          have HFI : Hid (∀ x ∈ fl (AL.take k), ∃ p ∈ A, x ∈ p.2) := fl_in HG.out.2.2.2.2.1 (fun x hx => by obtain ⟨r, hr, h⟩ := mem_fl.1 hx; exact mem_fl.2 ⟨r, List.mem_of_mem_take hr, h⟩)
          have k0 : (0 : Int) ≤ (k : Int) := by omega
          have k1 : (k : Int) < (LN : Int) := by omega
          clear hx hq hrg
          go_wp2_with (first | (refine load_pk_mid rfl _ rfl _ _ rfl _ _ (by exact HRQ.out) ?_) | (go_at_call 9; refine (two_deliver HP.out HT.out HIV.out HT1.out HFI.out HPG.out).mono ?_; rintro e w7 ⟨rfl, q1, q2, h7, _⟩; have HT7 : Hid (TwoS SR t wid w0 b1 b2 (fl (AL.take (k + 1))) [] w7 q1 q2) := (by unfold Hid; rw [HTK.out]; exact h7); clear h7))
          go_roundw
          case rel => exact ⟨k + 1, q1, q2, by omega, by go_num, HT7.out⟩
          case measure => simp [intOf]; omega
        · obtain rfl : LN = k := by omega
          have HTA : Hid (TwoS SR t wid w0 b1 b2 (fl AL) [] wr p1 p2) := by
            have h1 := HT1.out
            rw [List.take_of_length_le (by rw [HG.out.2.1]; exact Nat.le_refl _)] at h1
            exact h1
          clear HT1 hlk
          obtain ⟨s1, hs1⟩ : ∃ s1 : Nat, s1 = on + LN := ⟨_, rfl⟩
          have HS1 : Hid (s1 = on + LN) := hs1
          have es1 : IntKind.i64.wrap ((on : Int) + (LN : Int)) = (s1 : Int) := by rw [hs1]; have := IntWalk.i64_in ((on : Int) + (LN : Int)) ⟨by omega, by omega⟩; rw [this]; omega
          obtain ⟨s2, hs2⟩ : ∃ s2 : Int, s2 = (s1 : Int) - 1 := ⟨_, rfl⟩
          have es2 : IntKind.i64.wrap ((s1 : Int) - 1) = s2 := by rw [hs2]; exact IntWalk.i64_in _ ⟨by omega, by omega⟩
          have HS2 : Hid (s2 = (s1 : Int) - 1) := hs2
          have hs1b : s1 ≤ 2097152 := by omega
          have hs2b : -1 ≤ s2 ∧ s2 ≤ 2097152 := by omega
          clear hs1 hs2
          go_wp2
          go_loopw [18] (fun i wr => ∃ (k : Nat) (F : List It) (o1 o2 : Ghost), k ≤ s1 ∧ i = .int .i64 k ∧ TwoS SR t wid w0 b1 b2 (fl AL) F wr o1 o2 ∧ Cov AL s1 k F) (fun i _ => s1 - (intOf i).toNat)
          case atStart => exact ⟨0, [], p1, p2, by omega, rfl, HTA.out, ⟨fun x hx => by simp at hx, fun j q hj hs x hx => by
            have h1 := (List.getElem?_eq_some_iff.1 hj).1
            have h2 := HG.out.2.1
            have h3 := HS1.out
            omega⟩⟩
          case round =>
            obtain ⟨k, F, p3, p4, hk, rfl, hts, hcv⟩ := hrel
            have HT3 : Hid (TwoS SR t wid w0 b1 b2 (fl AL) F wr p3 p4 ∧ Cov AL s1 k F) := ⟨hts, hcv⟩
            clear hts hcv
            by_cases hgo : k < s1 ∧ 0 < LN
            · obtain ⟨hks, hL0⟩ := hgo
              obtain ⟨gl, ol, rfl, hgl, hrg⟩ := HG.out.2.2.1.pos 0 (by rw [HG.out.1]; exact hL0)
              have HFI : Hid (∀ x ∈ F, ∃ p ∈ A, x ∈ p.2) := fl_in HG.out.2.2.2.2.1 HT3.out.2.sub
              by_cases hko : k < on
              · obtain ⟨go, oo, rfl, hgo, co⟩ := H2.out.1.int_at (bnext HG.out.2.2.2.2.2 HT3.out.1.bel) k (by rw [hon]; exact hko)
                obtain ⟨ov, hov⟩ : ∃ ov, ov = order[k]'(by rw [hon]; exact hko) := ⟨_, rfl⟩
                have hovf : fitsI ov := by rw [hov]; exact H2.out.2 _ (List.getElem_mem _)
                rw [← hov] at co
                have hpb := pk_bd ov LN (by omega)
                obtain ⟨kk, hkk⟩ : ∃ kk : Nat, pk ov LN = kk := ⟨(pk ov LN).toNat, by omega⟩
                have HKK : Hid (pk ov LN = kk) := hkk
                have hkL : kk < LN := by omega
                obtain ⟨⟨xf, ⟨xp, xn, xc⟩⟩, hx⟩ : ∃ x, L[kk]? = some x := ⟨_, List.getElem?_eq_getElem (by rw [HG.out.1]; exact hkL)⟩
                obtain ⟨q, hq⟩ : ∃ q, AL[kk]? = some q := ⟨_, List.getElem?_eq_getElem (by rw [HG.out.2.1]; exact hkL)⟩
                have HPG : Hid (PkG w0 t A ⟨xf, ⟨xp, xn, xc⟩⟩ q) := HG.out.2.2.2.1 kk _ q hx hq
                have HRQ : Hid (wr.rangeAt gl (ol + kk * 2) [.int .i64 xf, .slice xp xn xc]) := range_below HT3.out.1.bel hgl (hrg kk _ hx)
                have HCV : Hid (Cov AL s1 (k + 1) (F ++ q.2)) := HT3.out.2.next hq fun j hj hs => by
                  have h2 := HG.out.2.1
                  have h3 := HS1.out
                  omega
                obtain ⟨s3, hs3⟩ : ∃ s3 : Int, s3 = s2 - (k : Int) := ⟨_, rfl⟩
                have es3 : IntKind.i64.wrap (s2 - (k : Int)) = s3 := by rw [hs3]; exact IntWalk.i64_in _ ⟨by omega, by omega⟩
                have k0 : (0 : Int) ≤ (k : Int) := by omega
                have k1 : (k : Int) < (on : Int) := by omega
                have kk0 : (0 : Int) ≤ (kk : Int) := by omega
                have kk1 : (kk : Int) < (LN : Int) := by omega
                have hL1 : (1 : Int) ≤ (LN : Int) := by omega
                clear hx hq hrg hkk hpb hov hs3
                go_wp2_with (first | (go_at_call 10; refine (pick_any ov LN _ hovf.1 hovf.2 hL1 (by omega)).mono ?_; rintro e wA ⟨rfl, hwA⟩; have hwA := hwA.symm; subst hwA; rw [HKK.out]) | (refine load_pk_mid rfl _ rfl _ _ rfl _ _ (by exact HRQ.out) ?_) | (go_at_call 9; refine (two_deliver HP.out HT.out HIV.out HT3.out.1.swap HFI.out HPG.out).mono ?_; rintro e w7 ⟨rfl, q1, q2, h7, _⟩; have HT7 : Hid (TwoS SR t wid w0 b1 b2 (fl AL) (F ++ q.2) w7 q2 q1) := h7.swap; clear h7))
                go_roundw
                case rel => exact ⟨k + 1, F ++ q.2, q2, q1, by omega, by go_num, HT7.out, HCV.out⟩
                case measure => simp [intOf]; omega
              · obtain ⟨kk, hkk⟩ : ∃ kk : Nat, kk = s1 - 1 - k := ⟨_, rfl⟩
                have h3 := HS1.out
                have hkL : kk < LN := by omega
                have es3 : IntKind.i64.wrap (s2 - (k : Int)) = (kk : Int) := by
                  have h2 := HS2.out
                  rw [IntWalk.i64_in _ ⟨by omega, by omega⟩]; omega
                obtain ⟨⟨xf, ⟨xp, xn, xc⟩⟩, hx⟩ : ∃ x, L[kk]? = some x := ⟨_, List.getElem?_eq_getElem (by rw [HG.out.1]; exact hkL)⟩
                obtain ⟨q, hq⟩ : ∃ q, AL[kk]? = some q := ⟨_, List.getElem?_eq_getElem (by rw [HG.out.2.1]; exact hkL)⟩
                have HPG : Hid (PkG w0 t A ⟨xf, ⟨xp, xn, xc⟩⟩ q) := HG.out.2.2.2.1 kk _ q hx hq
                have HRQ : Hid (wr.rangeAt gl (ol + kk * 2) [.int .i64 xf, .slice xp xn xc]) := range_below HT3.out.1.bel hgl (hrg kk _ hx)
                have HCV : Hid (Cov AL s1 (k + 1) (F ++ q.2)) := HT3.out.2.next hq fun j hj hs => by omega
                have kk0 : (0 : Int) ≤ (kk : Int) := by omega
                have kk1 : (kk : Int) < (LN : Int) := by omega
                clear hx hq hrg hkk h3
                go_wp2_with (first | (refine load_pk_mid rfl _ rfl _ _ rfl _ _ (by exact HRQ.out) ?_) | (go_at_call 9; refine (two_deliver HP.out HT.out HIV.out HT3.out.1.swap HFI.out HPG.out).mono ?_; rintro e w7 ⟨rfl, q1, q2, h7, _⟩; have HT7 : Hid (TwoS SR t wid w0 b1 b2 (fl AL) (F ++ q.2) w7 q2 q1) := h7.swap; clear h7))
                go_roundw
                case rel => exact ⟨k + 1, F ++ q.2, q2, q1, by omega, by go_num, HT7.out, HCV.out⟩
                case measure => simp [intOf]; omega
            · have HALL : Hid (∀ x, x ∈ fl AL ↔ x ∈ F) := by
                rcases Nat.lt_or_ge k s1 with h | h
                · have hl0 : AL = [] := List.length_eq_zero_iff.1 (by rw [HG.out.2.1]; omega)
                  intro x
                  refine ⟨fun hx => by rw [hl0] at hx; simp [fl] at hx, fun hx => HT3.out.2.sub x hx⟩
                · exact HT3.out.2.all h
              rcases Nat.lt_or_ge k s1 with hq | hq
              · have hz0 : ¬ 0 < LN := by omega
                clear hgo
                obtain ⟨X, hX⟩ : ∃ X, X = lvAt t (rtD t (fl AL)) 0 := ⟨_, rfl⟩
                have HAIN : Hid (AllIn (fl AL)) := allIn_of HIV.out (fl_in HG.out.2.2.2.2.1 (fun x hx => hx))
                have HCON : Hid (Con fun x => x ∈ fl AL) := fl_con HIV.out HG.out.2.2.2.2.1
                have HX1 : Hid (lvAt t (rtD t (fl AL)) 0 = X) := hX.symm
                have HX2 : Hid (lvAt t (rtD t F) 0 = X) := by rw [hX]; exact (rtD_lv hp1 HCON.out HALL.out).symm
                have HX3 : Hid (lvAt t (rtD t (fl AL ++ fl AL)) 0 = X) := by rw [hX]; exact (rtD_lv hp1 HCON.out (fun x => by simp)).symm
                have HXG : Hid (AllOkI X ∧ X.length ≤ 160) := by rw [hX]; exact rtD_good HAIN.out hp1
                have HFI : Hid (∀ x ∈ F, ∃ p ∈ A, x ∈ p.2) := fl_in HG.out.2.2.2.2.1 HT3.out.2.sub
                have HT5 : Hid (TwoS SR t wid w0 b1 b2 (fl AL) F wr p3 p4) := HT3.out.1
                clear hX HT3
                go_upto_region 34 with (go_at_call 11; refine (HP.out.R.items wr p3 w0.heap.size b1 t wid (rtD t (fl AL)) HT5.out.s1 (rtD_di HAIN.out _) 0 ⟨by omega, by omega⟩).mono ?_; rintro e wX ⟨v1, rfl, ho1, hb1⟩; rw [HX1.out] at ho1; obtain ⟨xp, xl, xc, rfl, hxl⟩ : ∃ xp xl xc, v1 = .slice xp xl xc ∧ X.length = xl := (by obtain ⟨p', c', e, _⟩ := ho1.form; exact ⟨p', _, c', e, rfl⟩); have HOX : Hid (Own clIt wX wr.heap.size 80 (.slice xp xl xc) X) := ho1; have HXL : Hid (X.length = xl) := hxl; have HBX : Hid (Below wr.heap.size wr wX) := hb1; clear ho1 hb1 hxl)
                rename World => wX
                go_upto_region 35 with (go_at_call 11; refine (HP.out.R.items wX p4 w0.heap.size b2 t wid (rtD t F) (HP.out.R.below' HT5.out.s2 HBX.out) (rtD_di (allIn_of HIV.out HFI.out) _) 0 ⟨by omega, by omega⟩).mono ?_; rintro e wY ⟨v2, rfl, ho2, hb2⟩; rw [HX2.out] at ho2; obtain ⟨yp, yc, rfl⟩ : ∃ yp yc, v2 = .slice yp xl yc := (by obtain ⟨p', c', e, _⟩ := ho2.form; exact ⟨p', c', by rw [e, HXL.out]⟩); have HOY : Hid (Own clIt wY wX.heap.size 80 (.slice yp xl yc) X) := ho2; have HBY : Hid (Below wX.heap.size wX wY) := hb2; clear ho2 hb2)
                rename World => wY
                have hsX : wr.heap.size ≤ wX.heap.size := HBX.out.size
                have HBZ : Hid (Below wr.heap.size wr wY) := bnext HBX.out HBY.out
                have HT6 : Hid (TwoS SR t wid w0 b1 b2 (fl AL) F wY (argO wr p3) (argO wr p4)) := HT5.out.below HP.out.R HBZ.out
                have HPI : Hid ((RowsAt clIt wY xp X ∧ RowsAt clIt wY yp X) ∧ (∀ b off, xp = some ⟨b, off, none⟩ → b < wY.heap.size ∧ argO wr p3 b = .arg ∧ argO wr p4 b = .arg) ∧ ∀ b off, yp = some ⟨b, off, none⟩ → b < wY.heap.size ∧ argO wr p3 b = .arg ∧ argO wr p4 b = .arg) := by
                  refine ⟨⟨(Own.sl (s := ⟨xp, xl, xc⟩) HOX.out).2.below HBY.out, (Own.sl (s := ⟨yp, xl, yc⟩) HOY.out).2⟩, fun b off e => ?_, fun b off e => ?_⟩
                  · have h1 := HOX.out.lt b (by rw [e]; rfl)
                    have h2 := HBY.out.size
                    exact ⟨by omega, argO_new h1.1, argO_new h1.1⟩
                  · have h1 := HOY.out.lt b (by rw [e]; rfl)
                    exact ⟨h1.2, argO_new (by omega), argO_new (by omega)⟩
                have hxl160 : xl ≤ 160 := by have := HXG.out.2; have := HXL.out; omega
                clear HOX HOY HBX HBY HBZ HT5
                go_wp2
                go_loopw [23] (fun i wr => ∃ (k : Nat) (o1 o2 : Ghost), k ≤ LN ∧ i = .int .i64 k ∧ TwoS SR t wid w0 b1 b2 (fl AL ++ fl (AL.take k)) F wr o1 o2 ∧ (RowsAt clIt wr xp X ∧ RowsAt clIt wr yp X) ∧ (∀ b off, xp = some ⟨b, off, none⟩ → b < wr.heap.size ∧ o1 b = .arg ∧ o2 b = .arg) ∧ ∀ b off, yp = some ⟨b, off, none⟩ → b < wr.heap.size ∧ o1 b = .arg ∧ o2 b = .arg) (fun i _ => LN - (intOf i).toNat)
                case atStart => exact ⟨0, _, _, by omega, rfl, by simpa [fl] using HT6.out, HPI.out.1, HPI.out.2.1, HPI.out.2.2⟩
                case round =>
                  obtain ⟨k4, p5, p6, hk4, rfl, hts, hrw, hpx, hpy⟩ := hrel
                  have HT8 : Hid (TwoS SR t wid w0 b1 b2 (fl AL ++ fl (AL.take k4)) F wr p5 p6) := hts
                  have HPI8 : Hid ((RowsAt clIt wr xp X ∧ RowsAt clIt wr yp X) ∧ (∀ b off, xp = some ⟨b, off, none⟩ → b < wr.heap.size ∧ p5 b = .arg ∧ p6 b = .arg) ∧ ∀ b off, yp = some ⟨b, off, none⟩ → b < wr.heap.size ∧ p5 b = .arg ∧ p6 b = .arg) := ⟨hrw, hpx, hpy⟩
                  clear hts hrw hpx hpy
                  by_cases hl4 : k4 < LN
                  · obtain ⟨gl, ol, rfl, hgl, hrg⟩ := HG.out.2.2.1.pos k4 (by rw [HG.out.1]; exact hl4)
                    obtain ⟨⟨xf, ⟨zp, zn, zc⟩⟩, hx⟩ : ∃ x, L[k4]? = some x := ⟨_, List.getElem?_eq_getElem (by rw [HG.out.1]; exact hl4)⟩
                    obtain ⟨q, hq⟩ : ∃ q, AL[k4]? = some q := ⟨_, List.getElem?_eq_getElem (by rw [HG.out.2.1]; exact hl4)⟩
                    have HPG : Hid (PkG w0 t A ⟨xf, ⟨zp, zn, zc⟩⟩ q) := HG.out.2.2.2.1 k4 _ q hx hq
                    have HRQ : Hid (wr.rangeAt gl (ol + k4 * 2) [.int .i64 xf, .slice zp zn zc]) := range_below HT8.out.bel hgl (hrg k4 _ hx)
                    have HTK : Hid (fl AL ++ fl (AL.take (k4 + 1)) = fl AL ++ fl (AL.take k4) ++ q.2) := by unfold Hid; rw [fl_take hq, List.append_assoc]
                    have HFJ : Hid (∀ x ∈ fl AL ++ fl (AL.take k4), ∃ p ∈ A, x ∈ p.2) := fl_in HG.out.2.2.2.2.1 (fun x hx => by
                      rcases List.mem_append.1 hx with h | h
                      · exact h
                      · obtain ⟨r, hr, h⟩ := mem_fl.1 h; exact mem_fl.2 ⟨r, List.mem_of_mem_take hr, h⟩)
                    have k40 : (0 : Int) ≤ (k4 : Int) := by omega
                    have k41 : (k4 : Int) < (LN : Int) := by omega
                    clear hx hq hrg
                    go_wp2_with (first | (refine load_pk_mid rfl _ rfl _ _ rfl _ _ (by exact HRQ.out) ?_) | (go_at_call 9; refine (two_deliver HP.out HT.out HIV.out HT8.out HFJ.out HPG.out).mono ?_; rintro e w9 ⟨rfl, q1, q2, h9, hsz, hkp⟩; have HT9 : Hid (TwoS SR t wid w0 b1 b2 (fl AL ++ fl (AL.take (k4 + 1))) F w9 q1 q2) := (by unfold Hid; rw [HTK.out]; exact h9); have HPI9 : Hid ((RowsAt clIt w9 xp X ∧ RowsAt clIt w9 yp X) ∧ (∀ b off, xp = some ⟨b, off, none⟩ → b < w9.heap.size ∧ q1 b = .arg ∧ q2 b = .arg) ∧ ∀ b off, yp = some ⟨b, off, none⟩ → b < w9.heap.size ∧ q1 b = .arg ∧ q2 b = .arg) := pins_on HPI8.out hsz hkp; clear h9 hkp hsz))
                    go_roundw
                    case rel => exact ⟨k4 + 1, q1, q2, by omega, by go_num, HT9.out, HPI9.out.1, HPI9.out.2.1, HPI9.out.2.2⟩
                    case measure => simp [intOf]; omega
                  · obtain rfl : LN = k4 := by omega
                    have HTB : Hid (TwoS SR t wid w0 b1 b2 (fl AL ++ fl AL) F wr p5 p6) := by
                      have h1 := HT8.out
                      rw [List.take_of_length_le (by rw [HG.out.2.1]; exact Nat.le_refl _)] at h1
                      exact h1
                    have HAIN2 : Hid (AllIn (fl AL ++ fl AL)) := fun x hx => HAIN.out x (by rcases List.mem_append.1 hx with h | h <;> exact h)
                    clear HT8
                    go_upto_region 42 with (go_at_call 11; refine (HP.out.R.items wr p5 w0.heap.size b1 t wid (rtD t (fl AL ++ fl AL)) HTB.out.s1 (rtD_di HAIN2.out _) 0 ⟨by omega, by omega⟩).mono ?_; rintro e wZ ⟨v3, rfl, ho3, hb3⟩; rw [HX3.out] at ho3; obtain ⟨zp, zc, rfl⟩ : ∃ zp zc, v3 = .slice zp xl zc := (by obtain ⟨p', c', e, _⟩ := ho3.form; exact ⟨p', c', by rw [e, HXL.out]⟩); have HRZ : Hid (RowsAt clIt wZ zp X ∧ RowsAt clIt wZ xp X ∧ RowsAt clIt wZ yp X ∧ Below w.heap.size w wZ) := ⟨(Own.sl (s := ⟨zp, xl, zc⟩) ho3).2, HPI8.out.1.1.below hb3, HPI8.out.1.2.below hb3, bnext (bnext HG.out.2.2.2.2.2 HTB.out.bel) hb3⟩; clear ho3 hb3)
                    rename World => wZ
                    go_upto_region 43 with (go_at_call 12; refine (ksame_any X HXG.out.1 xp yp xl xc yc wZ HXL.out HRZ.out.2.1 HRZ.out.2.2.1 (by omega)).mono ?_; rintro e wU ⟨rfl, hbU⟩; have HBU : Hid (Below wZ.heap.size wZ wU) := hbU; clear hbU)
                    rename World => wU
                    go_wp2_with (go_at_call 12; refine (ksame_any X HXG.out.1 xp zp xl xc zc wU HXL.out (HRZ.out.2.1.below HBU.out) (HRZ.out.1.below HBU.out) (by omega)).mono ?_; rintro e wV ⟨rfl, hbV⟩; have HBV : Hid (Below w.heap.size w wV) := bnext (bnext HRZ.out.2.2.2 HBU.out) hbV; clear hbV)
                    go_ret
                    exact ⟨rfl, HBV.out⟩
              · have hz0 : ¬ k < s1 := by omega
                clear hgo hq
                obtain ⟨X, hX⟩ : ∃ X, X = lvAt t (rtD t (fl AL)) 0 := ⟨_, rfl⟩
                have HAIN : Hid (AllIn (fl AL)) := allIn_of HIV.out (fl_in HG.out.2.2.2.2.1 (fun x hx => hx))
                have HCON : Hid (Con fun x => x ∈ fl AL) := fl_con HIV.out HG.out.2.2.2.2.1
                have HX1 : Hid (lvAt t (rtD t (fl AL)) 0 = X) := hX.symm
                have HX2 : Hid (lvAt t (rtD t F) 0 = X) := by rw [hX]; exact (rtD_lv hp1 HCON.out HALL.out).symm
                have HX3 : Hid (lvAt t (rtD t (fl AL ++ fl AL)) 0 = X) := by rw [hX]; exact (rtD_lv hp1 HCON.out (fun x => by simp)).symm
                have HXG : Hid (AllOkI X ∧ X.length ≤ 160) := by rw [hX]; exact rtD_good HAIN.out hp1
                have HFI : Hid (∀ x ∈ F, ∃ p ∈ A, x ∈ p.2) := fl_in HG.out.2.2.2.2.1 HT3.out.2.sub
                have HT5 : Hid (TwoS SR t wid w0 b1 b2 (fl AL) F wr p3 p4) := HT3.out.1
                clear hX HT3
                go_upto_region 34 with (go_at_call 11; refine (HP.out.R.items wr p3 w0.heap.size b1 t wid (rtD t (fl AL)) HT5.out.s1 (rtD_di HAIN.out _) 0 ⟨by omega, by omega⟩).mono ?_; rintro e wX ⟨v1, rfl, ho1, hb1⟩; rw [HX1.out] at ho1; obtain ⟨xp, xl, xc, rfl, hxl⟩ : ∃ xp xl xc, v1 = .slice xp xl xc ∧ X.length = xl := (by obtain ⟨p', c', e, _⟩ := ho1.form; exact ⟨p', _, c', e, rfl⟩); have HOX : Hid (Own clIt wX wr.heap.size 80 (.slice xp xl xc) X) := ho1; have HXL : Hid (X.length = xl) := hxl; have HBX : Hid (Below wr.heap.size wr wX) := hb1; clear ho1 hb1 hxl)
                rename World => wX
                go_upto_region 35 with (go_at_call 11; refine (HP.out.R.items wX p4 w0.heap.size b2 t wid (rtD t F) (HP.out.R.below' HT5.out.s2 HBX.out) (rtD_di (allIn_of HIV.out HFI.out) _) 0 ⟨by omega, by omega⟩).mono ?_; rintro e wY ⟨v2, rfl, ho2, hb2⟩; rw [HX2.out] at ho2; obtain ⟨yp, yc, rfl⟩ : ∃ yp yc, v2 = .slice yp xl yc := (by obtain ⟨p', c', e, _⟩ := ho2.form; exact ⟨p', c', by rw [e, HXL.out]⟩); have HOY : Hid (Own clIt wY wX.heap.size 80 (.slice yp xl yc) X) := ho2; have HBY : Hid (Below wX.heap.size wX wY) := hb2; clear ho2 hb2)
                rename World => wY
                have hsX : wr.heap.size ≤ wX.heap.size := HBX.out.size
                have HBZ : Hid (Below wr.heap.size wr wY) := bnext HBX.out HBY.out
                have HT6 : Hid (TwoS SR t wid w0 b1 b2 (fl AL) F wY (argO wr p3) (argO wr p4)) := HT5.out.below HP.out.R HBZ.out
                have HPI : Hid ((RowsAt clIt wY xp X ∧ RowsAt clIt wY yp X) ∧ (∀ b off, xp = some ⟨b, off, none⟩ → b < wY.heap.size ∧ argO wr p3 b = .arg ∧ argO wr p4 b = .arg) ∧ ∀ b off, yp = some ⟨b, off, none⟩ → b < wY.heap.size ∧ argO wr p3 b = .arg ∧ argO wr p4 b = .arg) := by
                  refine ⟨⟨(Own.sl (s := ⟨xp, xl, xc⟩) HOX.out).2.below HBY.out, (Own.sl (s := ⟨yp, xl, yc⟩) HOY.out).2⟩, fun b off e => ?_, fun b off e => ?_⟩
                  · have h1 := HOX.out.lt b (by rw [e]; rfl)
                    have h2 := HBY.out.size
                    exact ⟨by omega, argO_new h1.1, argO_new h1.1⟩
                  · have h1 := HOY.out.lt b (by rw [e]; rfl)
                    exact ⟨h1.2, argO_new (by omega), argO_new (by omega)⟩
                have hxl160 : xl ≤ 160 := by have := HXG.out.2; have := HXL.out; omega
                clear HOX HOY HBX HBY HBZ HT5
                go_wp2
                go_loopw [23] (fun i wr => ∃ (k : Nat) (o1 o2 : Ghost), k ≤ LN ∧ i = .int .i64 k ∧ TwoS SR t wid w0 b1 b2 (fl AL ++ fl (AL.take k)) F wr o1 o2 ∧ (RowsAt clIt wr xp X ∧ RowsAt clIt wr yp X) ∧ (∀ b off, xp = some ⟨b, off, none⟩ → b < wr.heap.size ∧ o1 b = .arg ∧ o2 b = .arg) ∧ ∀ b off, yp = some ⟨b, off, none⟩ → b < wr.heap.size ∧ o1 b = .arg ∧ o2 b = .arg) (fun i _ => LN - (intOf i).toNat)
                case atStart => exact ⟨0, _, _, by omega, rfl, by simpa [fl] using HT6.out, HPI.out.1, HPI.out.2.1, HPI.out.2.2⟩
                case round =>
                  obtain ⟨k4, p5, p6, hk4, rfl, hts, hrw, hpx, hpy⟩ := hrel
                  have HT8 : Hid (TwoS SR t wid w0 b1 b2 (fl AL ++ fl (AL.take k4)) F wr p5 p6) := hts
                  have HPI8 : Hid ((RowsAt clIt wr xp X ∧ RowsAt clIt wr yp X) ∧ (∀ b off, xp = some ⟨b, off, none⟩ → b < wr.heap.size ∧ p5 b = .arg ∧ p6 b = .arg) ∧ ∀ b off, yp = some ⟨b, off, none⟩ → b < wr.heap.size ∧ p5 b = .arg ∧ p6 b = .arg) := ⟨hrw, hpx, hpy⟩
                  clear hts hrw hpx hpy
                  by_cases hl4 : k4 < LN
                  · obtain ⟨gl, ol, rfl, hgl, hrg⟩ := HG.out.2.2.1.pos k4 (by rw [HG.out.1]; exact hl4)
                    obtain ⟨⟨xf, ⟨zp, zn, zc⟩⟩, hx⟩ : ∃ x, L[k4]? = some x := ⟨_, List.getElem?_eq_getElem (by rw [HG.out.1]; exact hl4)⟩
                    obtain ⟨q, hq⟩ : ∃ q, AL[k4]? = some q := ⟨_, List.getElem?_eq_getElem (by rw [HG.out.2.1]; exact hl4)⟩
                    have HPG : Hid (PkG w0 t A ⟨xf, ⟨zp, zn, zc⟩⟩ q) := HG.out.2.2.2.1 k4 _ q hx hq
                    have HRQ : Hid (wr.rangeAt gl (ol + k4 * 2) [.int .i64 xf, .slice zp zn zc]) := range_below HT8.out.bel hgl (hrg k4 _ hx)
                    have HTK : Hid (fl AL ++ fl (AL.take (k4 + 1)) = fl AL ++ fl (AL.take k4) ++ q.2) := by unfold Hid; rw [fl_take hq, List.append_assoc]
                    have HFJ : Hid (∀ x ∈ fl AL ++ fl (AL.take k4), ∃ p ∈ A, x ∈ p.2) := fl_in HG.out.2.2.2.2.1 (fun x hx => by
                      rcases List.mem_append.1 hx with h | h
                      · exact h
                      · obtain ⟨r, hr, h⟩ := mem_fl.1 h; exact mem_fl.2 ⟨r, List.mem_of_mem_take hr, h⟩)
                    have k40 : (0 : Int) ≤ (k4 : Int) := by omega
                    have k41 : (k4 : Int) < (LN : Int) := by omega
                    clear hx hq hrg
                    go_wp2_with (first | (refine load_pk_mid rfl _ rfl _ _ rfl _ _ (by exact HRQ.out) ?_) | (go_at_call 9; refine (two_deliver HP.out HT.out HIV.out HT8.out HFJ.out HPG.out).mono ?_; rintro e w9 ⟨rfl, q1, q2, h9, hsz, hkp⟩; have HT9 : Hid (TwoS SR t wid w0 b1 b2 (fl AL ++ fl (AL.take (k4 + 1))) F w9 q1 q2) := (by unfold Hid; rw [HTK.out]; exact h9); have HPI9 : Hid ((RowsAt clIt w9 xp X ∧ RowsAt clIt w9 yp X) ∧ (∀ b off, xp = some ⟨b, off, none⟩ → b < w9.heap.size ∧ q1 b = .arg ∧ q2 b = .arg) ∧ ∀ b off, yp = some ⟨b, off, none⟩ → b < w9.heap.size ∧ q1 b = .arg ∧ q2 b = .arg) := pins_on HPI8.out hsz hkp; clear h9 hkp hsz))
                    go_roundw
                    case rel => exact ⟨k4 + 1, q1, q2, by omega, by go_num, HT9.out, HPI9.out.1, HPI9.out.2.1, HPI9.out.2.2⟩
                    case measure => simp [intOf]; omega
                  · obtain rfl : LN = k4 := by omega
                    have HTB : Hid (TwoS SR t wid w0 b1 b2 (fl AL ++ fl AL) F wr p5 p6) := by
                      have h1 := HT8.out
                      rw [List.take_of_length_le (by rw [HG.out.2.1]; exact Nat.le_refl _)] at h1
                      exact h1
                    have HAIN2 : Hid (AllIn (fl AL ++ fl AL)) := fun x hx => HAIN.out x (by rcases List.mem_append.1 hx with h | h <;> exact h)
                    clear HT8
                    go_upto_region 42 with (go_at_call 11; refine (HP.out.R.items wr p5 w0.heap.size b1 t wid (rtD t (fl AL ++ fl AL)) HTB.out.s1 (rtD_di HAIN2.out _) 0 ⟨by omega, by omega⟩).mono ?_; rintro e wZ ⟨v3, rfl, ho3, hb3⟩; rw [HX3.out] at ho3; obtain ⟨zp, zc, rfl⟩ : ∃ zp zc, v3 = .slice zp xl zc := (by obtain ⟨p', c', e, _⟩ := ho3.form; exact ⟨p', c', by rw [e, HXL.out]⟩); have HRZ : Hid (RowsAt clIt wZ zp X ∧ RowsAt clIt wZ xp X ∧ RowsAt clIt wZ yp X ∧ Below w.heap.size w wZ) := ⟨(Own.sl (s := ⟨zp, xl, zc⟩) ho3).2, HPI8.out.1.1.below hb3, HPI8.out.1.2.below hb3, bnext (bnext HG.out.2.2.2.2.2 HTB.out.bel) hb3⟩; clear ho3 hb3)
                    rename World => wZ
                    go_upto_region 43 with (go_at_call 12; refine (ksame_any X HXG.out.1 xp yp xl xc yc wZ HXL.out HRZ.out.2.1 HRZ.out.2.2.1 (by omega)).mono ?_; rintro e wU ⟨rfl, hbU⟩; have HBU : Hid (Below wZ.heap.size wZ wU) := hbU; clear hbU)
                    rename World => wU
                    go_wp2_with (go_at_call 12; refine (ksame_any X HXG.out.1 xp zp xl xc zc wU HXL.out (HRZ.out.2.1.below HBU.out) (HRZ.out.1.below HBU.out) (by omega)).mono ?_; rintro e wV ⟨rfl, hbV⟩; have HBV : Hid (Below w.heap.size w wV) := bnext (bnext HRZ.out.2.2.2 HBU.out) hbV; clear hbV)
                    go_ret
                    exact ⟨rfl, HBV.out⟩
end Go.Proofs.Ytpglbakcjihohab
