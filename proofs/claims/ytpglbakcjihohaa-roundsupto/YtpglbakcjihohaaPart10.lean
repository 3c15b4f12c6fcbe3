/-
  Own texts, laid together: Rounds: with each of them what the leaves know comes one node further up (no program is named here). A round: every node is stored and sends all to the node above, the root first. Rounds: a script, all leaves go on to the End, eight rounds, and all is sealed.
-/
import Derived.Test.YtpglbakcjihohaaRows
import Derived.Test.YtpglbakcjihohaaPart9
set_option linter.unusedSimpArgs false
set_option linter.unusedVariables false
set_option linter.deprecated false
/-! Rounds: with each of them what the leaves know comes one node further up (no program is named here). -/
namespace Go.Proofs.Ytpglbakcjihohaa
open Go.RowKit
set_option maxRecDepth 100000

/-! ### What is final stays, and comes over -/
/-- No item is newer than the last one of its leaf's window. -/
def Cap (c : Int → Int → Int) (x : It) : Prop := x.ver ≤ c x.leaf x.win ∧ (x.fin = true → x.ver = c x.leaf x.win)
def HasF (l : List It) (a b : Int) : Prop := ∃ x ∈ l, x.leaf = a ∧ x.win = b ∧ x.fin = true
theorem jin_fin (c : Int → Int → Int) (y : It) (hy : Cap c y) (a b : Int) : ∀ (l : List It), Srt l → (∀ x ∈ l, Cap c x) → (HasF l a b ∨ (y.leaf = a ∧ y.win = b ∧ y.fin = true)) → HasF (jin y l) a b
  | [], _, _, h => by
    rcases h with ⟨x, hx, _⟩ | h
    · simp at hx
    · exact ⟨y, by simp [jin], h⟩
  | z :: l, hs, hc, h => by
    have hp := List.pairwise_cons.1 hs
    unfold jin
    by_cases h1 : ahd y z = true
    · rw [if_pos h1]
      rcases h with ⟨x, hx, hk⟩ | h
      · exact ⟨x, by simp only [List.mem_cons] at hx ⊢; exact .inr hx, hk⟩
      · exact ⟨y, by simp, h⟩
    · rw [if_neg h1]
      by_cases h2 : z.leaf = y.leaf ∧ z.win = y.win
      · rw [if_pos h2]
        have cz := hc z (by simp)
        by_cases hk : y.leaf = a ∧ y.win = b
        · have hzf : (∃ x ∈ z :: l, x.leaf = a ∧ x.win = b ∧ x.fin = true) → z.fin = true := by
            rintro ⟨x, hx, e1, e2, e3⟩
            rcases List.mem_cons.1 hx with rfl | hx
            · exact e3
            · have := ahd_iff.1 (hp.1 x hx); omega
          have hcy : c y.leaf y.win = c z.leaf z.win := by rw [h2.1, h2.2]
          refine ⟨if nwr y z = true then y else z, by simp, ?_⟩
          by_cases hn : nwr y z = true
          · rw [if_pos hn]
            refine ⟨hk.1, hk.2, ?_⟩
            rcases h with h | h
            · have hz := hzf h
              have := cz.2 hz
              have := hy.1
              simp only [nwr, hz, Bool.not_true, Bool.and_false, Bool.or_false, decide_eq_true_eq] at hn
              omega
            · exact h.2.2
          · rw [if_neg hn]
            refine ⟨by omega, by omega, ?_⟩
            rcases h with h | h
            · exact hzf h
            · have e1 := hy.2 h.2.2
              have e2 := cz.1
              cases hzb : z.fin with
              | true => rfl
              | false =>
                exfalso
                apply hn
                simp only [nwr, h.2.2, hzb, Bool.not_false, Bool.and_true, Bool.or_eq_true, decide_eq_true_eq]
                omega
        · have hne : HasF (z :: l) a b := by
            rcases h with h | h
            · exact h
            · exact absurd ⟨h.1, h.2.1⟩ hk
          obtain ⟨x, hx, e1, e2, e3⟩ := hne
          refine ⟨x, ?_, e1, e2, e3⟩
          rcases List.mem_cons.1 hx with rfl | hx
          · omega
          · simp [hx]
      · rw [if_neg h2]
        have ih := jin_fin c y hy a b l hp.2 (fun x hx => hc x (by simp [hx]))
        rcases h with ⟨x, hx, hk⟩ | h
        · rcases List.mem_cons.1 hx with rfl | hx
          · exact ⟨x, by simp, hk⟩
          · obtain ⟨u, hu, hk'⟩ := ih (.inl ⟨x, hx, hk⟩)
            exact ⟨u, by simp [hu], hk'⟩
        · obtain ⟨u, hu, hk'⟩ := ih (.inr h)
          exact ⟨u, by simp [hu], hk'⟩
theorem dlv_fin (c : Int → Int → Int) (a b : Int) : ∀ (xs l : List It), Good l → AllIn xs → (∀ x ∈ l, Cap c x) → (∀ x ∈ xs, Cap c x) → (HasF l a b ∨ HasF xs a b) → HasF (xs.foldl jnd l) a b
  | [], l, _, _, _, _, h => by
    rcases h with h | ⟨x, hx, _⟩
    · exact h
    · simp at hx
  | y :: xs, l, hg, hi, hl, hx, h => by
    have hy := hx y (by simp)
    have hj := jnd_jin y l hg.srt
    simp only [List.foldl_cons]
    refine dlv_fin c a b xs (jnd l y) (hg.jnd (hi y (by simp))) (fun z hz => hi z (by simp [hz])) (fun z hz => ?_) (fun z hz => hx z (by simp [hz])) ?_
    · rcases mem_jnd y l hg.srt z hz with rfl | hz
      · exact hy
      · exact hl z hz
    · rcases h with h | ⟨x, hxx, hk⟩
      · exact .inl (by rw [hj]; exact jin_fin c y hy a b l hg.srt hl (.inl h))
      · rcases List.mem_cons.1 hxx with rfl | hxx
        · exact .inl (by rw [hj]; exact jin_fin c x hy a b l hg.srt hl (.inr hk))
        · exact .inr ⟨x, hxx, hk⟩
/-- How many stored events a leaf's window has. -/
def capD (D : List Nd) (a b : Int) : Int := (((D[a.toNat]?).map fun d => (evK d.kev b).length).getD 0 : Nat)
theorem Xct.cap {t : List Int} {D : List Nd} {x : It} (h : Xct t D x) : Cap (capD D) x := by
  obtain ⟨d, h1, h2, _, h4⟩ := h.of
  unfold Cap capD
  rw [h1]
  simp only [Option.map_some, Option.getD_some]
  exact ⟨h2, fun hf => (h4 hf).2⟩
/-! ### Nodes above -/
def dst (t : List Int) (f : Nat) : Nat → Nat → Prop
  | 0, p => p = f
  | r + 1, p => ∃ c : Nat, dst t f r c ∧ 1 ≤ c ∧ c < t.length ∧ t.getD c 0 = p
theorem dst_root {t : List Int} (hT : Tree t) (f : Nat) : ∀ (u c r : Nat), c ≤ u → c < t.length → dst t f r c → ∃ r', r' ≤ r + c ∧ dst t f r' 0
  | 0, c, r, hu, _, h => by
    obtain rfl : c = 0 := by omega
    exact ⟨r, by omega, h⟩
  | u + 1, c, r, hu, hc, h => by
    rcases Nat.eq_zero_or_pos c with rfl | hp
    · exact ⟨r, by omega, h⟩
    · have hup := hT.up c hp hc
      obtain ⟨r', h1, h2⟩ := dst_root hT f u (t.getD c 0).toNat (r + 1) (by omega) (by omega) ⟨c, h, hp, hc, by omega⟩
      exact ⟨r', by omega, h2⟩
/-- All leaves are closed. -/
def AllC (t : List Int) (D : List Nd) : Prop := ∀ (k : Nat) (d : Nd), D[k]? = some d → isLf t k = true → ∀ v : Nat, v < 20 → d.lcl v = true
/-- What the leaves know in the end has come up so far. -/
def Rd (t : List Int) (D : List Nd) (r : Nat) : Prop := ∀ (f r' p : Nat), r' ≤ r → f < t.length → isLf t f = true → dst t f r' p → ∀ v : Nat, v < 20 → HasF (lvAt t D p) f v
theorem rd_zero {t : List Int} {D : List Nd} {A : List (Int × List It)} (h : Inv t D A) (hc : AllC t D) : Rd t D 0 := fun f r' p hr hf hl hd v hv => by
  obtain rfl : r' = 0 := by omega
  obtain rfl : p = f := hd
  have hld := h.ld
  have hd : D[p]? = some (D[p]'(by omega)) := List.getElem?_eq_getElem _
  rw [lvAt_eq hf hd]
  unfold lvg
  rw [if_pos hl]
  have hcl := hc p _ hd hl v hv
  refine ⟨itOf p (D[p]'(by omega)).lev (D[p]'(by omega)).lcl v, ?_, rfl, rfl, hcl⟩
  unfold known knownTo
  refine List.mem_map.2 ⟨v, List.mem_filter.2 ⟨by simpa using hv, ?_⟩, rfl⟩
  unfold has
  rw [hcl]; simp
/-! ### A round, node by node -/
theorem lv_syn (t : List Int) (D : List Nd) (n p : Nat) : lvAt t (synD t D n) p = lvAt t D p := by
  unfold synD
  split
  · split
    · rename_i d hd
      rw [Int.toNat_natCast] at hd ⊢
      unfold lvAt
      split
      · rw [Int.toNat_natCast, List.getElem?_set]
        split
        · rename_i e
          subst e
          rw [hd, if_pos (List.getElem?_eq_some_iff.1 hd).1]
          rfl
        · rfl
      · rfl
    · rfl
  · rfl
theorem allC_syn {t : List Int} {D : List Nd} (h : AllC t D) (n : Nat) : AllC t (synD t D n) := by
  unfold synD
  split
  · split
    · rename_i d hd
      intro k e he
      rcases set_some he with ⟨rfl, rfl⟩ | ⟨_, he⟩
      · exact h _ d hd
      · exact h k e he
    · exact h
  · exact h
theorem allC_del {t : List Int} {D : List Nd} (h : AllC t D) (n fr : Int) (l : List It) : AllC t (delD t D n fr l) := by
  unfold delD
  split
  · split
    · rename_i d hd
      intro k e he
      rcases set_some he with ⟨rfl, rfl⟩ | ⟨_, he⟩
      · exact h _ d hd
      · exact h k e he
    · exact h
  · exact h
/-- What a node that was just stored sends is all that it shows. -/
theorem snd_syn {t : List Int} {D : List Nd} {A : List (Int × List It)} (h : Inv t D A) {n : Nat} (hn : n < t.length) (h0 : n ≠ 0) (x : It) (hx : x ∈ lvAt t D n) (hw : 0 ≤ x.win ∧ x.win < 20) : x ∈ sndL t (synD t D n) n 0 19 := by
  have hld := h.ld
  have hnd : isNd t n = true := by simp [isNd]; omega
  have hd : D[n]? = some (D[n]'(by omega)) := List.getElem?_eq_getElem _
  have hE : sndE t n 0 19 = 0 := by unfold sndE; rw [if_pos hnd, if_neg (by omega), if_pos (by decide)]
  unfold sndL
  rw [if_pos hE]
  unfold synD
  rw [if_pos hnd]
  simp only [Int.toNat_natCast, hd, List.getElem?_set_self (show n < D.length by omega), Option.map_some, Option.getD_some]
  rw [lvAt_eq hn hd] at hx
  refine List.mem_filter.2 ⟨?_, by simp only [inRg, decide_eq_true_eq]; omega⟩
  unfold lvg at hx
  unfold std
  exact hx
/-- A node's coming over. -/
theorem del_lv {t : List Int} (hT : Tree t) {D : List Nd} {A : List (Int × List It)} (h : Inv t D A) {p : Int × List It} (hp : p ∈ A) (k : Nat) (hk : k < t.length) (a b : Int) (ha : HasF (lvAt t D k) a b ∨ ((k : Int) = t.getD p.1.toNat 0 ∧ HasF p.2 a b)) : HasF (lvAt t (delD t D (t.getD p.1.toNat 0) p.1 p.2) k) a b := by
  have h8 := hT.le
  have hld := h.ld
  obtain ⟨p1, p2, pg, px⟩ := h.pk p hp
  have hnd : isNd t p.1 = true := by simp only [isNd, decide_eq_true_eq]; omega
  have hup := hT.up p.1.toNat (by omega) (by omega)
  obtain ⟨u, hu⟩ : ∃ u : Nat, t.getD p.1.toNat 0 = u := ⟨(t.getD p.1.toNat 0).toNat, by omega⟩
  have hfair := fair_pk h hp
  rw [hu] at ha hfair hup ⊢
  have hul : u < t.length := by omega
  have hE : delE t u p.1 p.2 = 0 := by unfold delE; rw [if_pos (by simp [isNd]; omega), if_pos hfair]
  have hd : D[u]? = some (D[u]'(by omega)) := List.getElem?_eq_getElem _
  unfold delD
  rw [if_pos hE]
  simp only [Int.toNat_natCast, hd]
  have hin : AllIn p.2 := fun x hx => ⟨pg.ok.mem hx, pg.inb x hx⟩
  have hulf : isLf t u = false := by
    unfold isLf
    simp only [decide_eq_false_iff_not, Classical.not_not]
    have hlt : p.1.toNat < t.length := by omega
    rw [← hu]
    simp only [List.getD, List.getElem?_eq_getElem hlt, Option.getD_some]
    exact List.getElem_mem _
  by_cases e : u = k
  · subst e
    have hset : (D.set u { (D[u]'(by omega)) with items := p.2.foldl jnd (D[u]'(by omega)).items })[u]? = some { (D[u]'(by omega)) with items := p.2.foldl jnd (D[u]'(by omega)).items } := List.getElem?_set_self (by omega)
    rw [lvAt_eq hk hset]
    rw [lvAt_eq hk hd] at ha
    unfold lvg at ha ⊢
    rw [if_neg (by rw [hulf]; simp)] at ha ⊢
    refine dlv_fin (capD D) a b p.2 _ (h.gd u _ hd).1 hin (fun x hx => (h.it u _ hd x (.inl hx)).1.cap) (fun x hx => (px x hx).1.cap) ?_
    rcases ha with ha | ha
    · exact .inl ha
    · exact .inr ha.2
  · have hko : D[k]? = some (D[k]'(by omega)) := List.getElem?_eq_getElem _
    have hk' : (D.set u { (D[u]'(by omega)) with items := p.2.foldl jnd (D[u]'(by omega)).items })[k]? = some (D[k]'(by omega)) := by rw [List.getElem?_set_ne e]; exact hko
    rw [lvAt_eq hk hk']
    rw [lvAt_eq hk hko] at ha
    rcases ha with ha | ha
    · exact ha
    · exact absurd (by omega) e
/-- What holds within a round, behind the first j nodes. -/
structure Rj (t : List Int) (D : List Nd) (r j : Nat) : Prop where
  c : AllC t D
  rd : Rd t D r
  up : ∀ m : Nat, 1 ≤ m → m < j → m < t.length → ∀ (f r' : Nat), r' ≤ r → f < t.length → isLf t f = true → dst t f r' m → ∀ v : Nat, v < 20 → HasF (lvAt t D (t.getD m 0)) f v
theorem rj_start {t : List Int} {D : List Nd} {r : Nat} (hc : AllC t D) (h : Rd t D r) : Rj t D r 0 := ⟨hc, h, fun m _ hm => by omega⟩
theorem rj_end {t : List Int} {D : List Nd} {r j : Nat} (hj : t.length ≤ j) (h : Rj t D r j) : Rd t D (r + 1) := fun f r' p hr hf hl hd v hv => by
  by_cases e : r' ≤ r
  · exact h.rd f r' p e hf hl hd v hv
  · obtain rfl : r' = r + 1 := by omega
    obtain ⟨c, h1, h2, h3, h4⟩ := hd
    rw [← h4]
    exact h.up c h2 (by omega) h3 f r (Nat.le_refl _) hf hl h1 v hv
theorem rj_syn {t : List Int} {D : List Nd} {r j : Nat} (hT : Tree t) (h : Rj t D r j) (n : Nat) : Rj t (synD t D n) r j := by
  refine ⟨allC_syn h.c n, fun f r' p a b c d v hv => ?_, fun m m1 m2 m3 f r' a b c d v hv => ?_⟩
  · rw [lv_syn]; exact h.rd f r' p a b c d v hv
  · have hup := hT.up m m1 m3
    have e : t.getD m 0 = ((t.getD m 0).toNat : Nat) := by omega
    have := h.up m m1 m2 m3 f r' a b c d v hv
    rw [e] at this ⊢
    rw [lv_syn]; exact this
theorem dst_lt {t : List Int} {f : Nat} (hT : Tree t) (hf : f < t.length) : ∀ (r p : Nat), dst t f r p → p < t.length
  | 0, p, h => by obtain rfl : p = f := h; exact hf
  | r + 1, p, ⟨c, _, h2, h3, h4⟩ => by have := hT.up c h2 h3; omega
theorem rj_root {t : List Int} {D : List Nd} {r : Nat} (h : Rj t D r 0) : Rj t D r 1 := ⟨h.c, h.rd, fun m m1 m2 => by omega⟩
/-- The j-th node has sent. -/
theorem rj_next {t : List Int} (hT : Tree t) {D : List Nd} {A : List (Int × List It)} {r j : Nat} (hj0 : j ≠ 0) (hj : j < t.length) (h : Rj t D r j) (hi : Inv t D A) (hi2 : Inv t (synD t D j) (A ++ [((j : Int), sndL t (synD t D j) j 0 19)])) :
    Rj t (delD t (synD t D j) (t.getD j 0) j (sndL t (synD t D j) j 0 19)) r (j + 1) := by
  have hr := rj_syn hT h j
  have hup0 := hT.up j (by omega) hj
  have key := fun (k : Nat) (hk : k < t.length) (a b : Int) (ha : HasF (lvAt t (synD t D j) k) a b ∨ ((k : Int) = t.getD j 0 ∧ HasF (sndL t (synD t D j) j 0 19) a b)) =>
    del_lv hT hi2 (p := ((j : Int), sndL t (synD t D j) j 0 19)) (by simp) k hk a b (by simpa using ha)
  simp only [Int.toNat_natCast] at key
  refine ⟨allC_del hr.c _ _ _, fun f r' p a b c d v hv => key p (dst_lt hT b r' p d) f v (.inl (hr.rd f r' p a b c d v hv)), fun m m1 m2 m3 f r' a b c d v hv => ?_⟩
  have hup := hT.up m m1 m3
  have e : t.getD m 0 = ((t.getD m 0).toNat : Nat) := by omega
  by_cases em : m = j
  · subst em
    have hz : HasF (sndL t (synD t D m) m 0 19) f v := by
      obtain ⟨x, hx, e1, e2, e3⟩ := h.rd f r' m a b c d v hv
      exact ⟨x, snd_syn hi hj hj0 x hx (by rw [e2]; omega), e1, e2, e3⟩
    have := key (t.getD m 0).toNat (by omega) f v (.inr ⟨e.symm, hz⟩)
    rw [← e] at this
    exact this
  · have h1 := hr.up m m1 (by omega) m3 f r' a b c d v hv
    rw [e] at h1
    have := key (t.getD m 0).toNat (by omega) f v (.inl h1)
    rw [← e] at this
    exact this
/-- Eight rounds are enough. -/
theorem rd_root {t : List Int} (hT : Tree t) {D : List Nd} (h : Rd t D 8) : ∀ k v : Nat, k < t.length → isLf t k = true → v < 20 → ∃ x ∈ lvAt t D 0, x.leaf = k ∧ x.win = v ∧ x.fin = true := fun k v hk hl hv => by
  have h8 := hT.le
  obtain ⟨r', h1, h2⟩ := dst_root hT k k k 0 (Nat.le_refl _) hk rfl
  exact h k r' 0 (by omega) hk hl h2 v hv
theorem lvs_lvU {t : List Int} (hT : Tree t) : ∀ j, j ≤ t.length → (lvsTo t j).length = lvU t 0 j
  | 0, _ => by simp [lvsTo, lvU]
  | j + 1, hj => by
    rw [lvU_succ, under_root hT (j + 1) j (by omega) (by omega), ← lvs_lvU hT j (by omega)]
    cases hl : isLf t j with
    | true => rw [lvsTo_yes t j hl]; simp
    | false => rw [lvsTo_no t j hl]; simp
theorem Inv.drop {t : List Int} {D : List Nd} {A B : List (Int × List It)} (h : Inv t D (A ++ B)) : Inv t D A := ⟨h.ld, h.pre, h.cl, h.inn, h.it, h.gd, fun p hp => h.pk p (by simp [hp])⟩
/-- A leaf goes on to the End. -/
theorem adv_end {t : List Int} {wid : Int} {D : List Nd} {k : Nat} {d : Nd} (hd : D[k]? = some d) (hk : k < t.length) (hl : isLf t k = true) (hw : 1 ≤ wid) (hm : d.lmk ≤ 20 * wid) : advD t wid D k (20 * wid) = D.set k { d with lmk := 20 * wid, lcl := clTo d.lcl wid (20 * wid) 20 } := by
  have hlv : wrg t k = 0 := by unfold wrg; rw [if_pos (by simp [isNd]; omega), if_pos hl]
  have e : ((D[((k : Int)).toNat]?).map fun d => d.lmk).getD 0 = d.lmk := by simp [hd]
  have hE : advE t wid D k (20 * wid) = 0 := by unfold advE; rw [if_pos hlv, if_neg (by rw [e]; omega)]
  unfold advD
  rw [if_pos hE]
  simp [hd]
theorem clTo_done (cl : Nat → Bool) (wid : Int) (hw : 1 ≤ wid) (v : Nat) (hv : v < 20) : clTo cl wid (20 * wid) 20 v = true := by
  unfold clTo
  rw [if_pos]
  refine ⟨hv, Int.mul_le_mul_of_nonneg_right (by omega) (by omega)⟩
end Go.Proofs.Ytpglbakcjihohaa

/-! A round: every node is stored and sends all to the node above, the root first. -/
namespace Go.Proofs.Ytpglbakcjihohaa
open Go.RowKit
set_option maxRecDepth 100000

theorem KN.trans {SR : SRT} {B0 bk bs : Nat} {t : List Int} {wid : Int} {m : Nat} {D : List Nd} {A : List (Int × List It)} {w w1 w2 : World} {own own1 : Ghost} (hs : Same w own own1) (hf : Fr own notA w w1) (h : KN SR B0 bk bs t wid m D A w1 own1 w2) : KN SR B0 bk bs t wid m D A w own w2 := by
  obtain ⟨own2, g, s, f⟩ := h
  exact ⟨own2, g, hs.trans hf.size s, hf.trans hs f⟩
/-- What a run's own cells tell. -/
theorem KX.cells {SR : SRT} {B0 bk bs : Nat} {t : List Int} {wid : Int} {m : Nat} {D : List Nd} {A : List (Int × List It)} {w : World} {own : Ghost} (h : KX SR B0 bk bs t wid m D A w own) : ∃ (tp : Option Addr) (tc : Nat), w.cell? ⟨bk, 0, none⟩ = some (.pointer (some ⟨bs, 0, none⟩)) ∧ w.cell? ⟨bk, 1, none⟩ = some (.slice tp t.length tc) ∧ w.cell? ⟨bk, 2, none⟩ = some (.int .i64 wid) ∧ RowsAt clInt w tp t ∧ (∀ b off, tp = some ⟨b, off, none⟩ → own b = .wd 0) ∧ own bk = .gm ∧ bk < w.heap.size := by
  obtain ⟨vt, vs, vl, C, PK, g⟩ := h
  obtain ⟨tp, tn, tc⟩ := vt
  have htr : t.length = tn ∧ RowsAt clInt w tp t := Own.sl (s := ⟨tp, tn, tc⟩) g.tr
  refine ⟨tp, tc, by rw [cell_of_row _ _ _ _ _ _ g.run]; rfl, by rw [cell_of_row _ _ _ _ _ _ g.run, htr.1]; rfl, by rw [cell_of_row _ _ _ _ _ _ g.run]; rfl, htr.2, fun b off e => g.tt b (by rw [e]; rfl), g.gm, lt_of_blk g.run⟩
theorem KX.tree {SR : SRT} {B0 bk bs : Nat} {t : List Int} {wid : Int} {m : Nat} {D : List Nd} {A : List (Int × List It)} {w : World} {own : Ghost} (h : KX SR B0 bk bs t wid m D A w own) : Tree t := by obtain ⟨vt, vs, vl, C, PK, g⟩ := h; exact g.T
theorem KX.inv {SR : SRT} {B0 bk bs : Nat} {t : List Int} {wid : Int} {m : Nat} {D : List Nd} {A : List (Int × List It)} {w : World} {own : Ghost} (h : KX SR B0 bk bs t wid m D A w own) : Inv t D A := by obtain ⟨vt, vs, vl, C, PK, g⟩ := h; exact g.inv
theorem KX.st {SR : SRT} {B0 bk bs : Nat} {t : List Int} {wid : Int} {m : Nat} {D : List Nd} {A : List (Int × List It)} {w : World} {own : Ghost} (h : KX SR B0 bk bs t wid m D A w own) : SR w own B0 bs t wid D := by obtain ⟨vt, vs, vl, C, PK, g⟩ := h; exact g.st
theorem KX.di {SR : SRT} {B0 bk bs : Nat} {t : List Int} {wid : Int} {m : Nat} {D : List Nd} {A : List (Int × List It)} {w : World} {own : Ghost} (h : KX SR B0 bk bs t wid m D A w own) : DI D m := by obtain ⟨vt, vs, vl, C, PK, g⟩ := h; exact g.di
theorem KX.b0 {SR : SRT} {B0 bk bs : Nat} {t : List Int} {wid : Int} {m : Nat} {D : List Nd} {A : List (Int × List It)} {w : World} {own : Ghost} (h : KX SR B0 bk bs t wid m D A w own) : B0 ≤ w.heap.size := by obtain ⟨vt, vs, vl, C, PK, g⟩ := h; exact g.b0
theorem KX.wd {SR : SRT} {B0 bk bs : Nat} {t : List Int} {wid : Int} {m : Nat} {D : List Nd} {A : List (Int × List It)} {w : World} {own : Ghost} (h : KX SR B0 bk bs t wid m D A w own) : 1 ≤ wid ∧ wid ≤ 1000 := by obtain ⟨vt, vs, vl, C, PK, g⟩ := h; exact ⟨g.wid0, g.wid1⟩
theorem KX.kev {SR : SRT} {B0 bk bs : Nat} {t : List Int} {wid : Int} {m : Nat} {D : List Nd} {A : List (Int × List It)} {w : World} {own : Ghost} (h : KX SR B0 bk bs t wid m D A w own) (hm : m ≤ 1000000000) : ∀ (k : Nat) (d : Nd), D[k]? = some d → EvOk d.kev ∧ d.kev.length ≤ 1000000000 := by
  obtain ⟨vt, vs, vl, C, PK, g⟩ := h
  exact fun k d hd => ⟨(g.nb k d hd).kev, by have := (g.di k d hd).2.1; omega⟩
set_option maxHeartbeats 8000000 in
theorem kround_any (SR : SRT) (P : PA SR) (w : World) (own : Ghost) (B0 bk bs : Nat) (t : List Int) (wid : Int) (m : Nat) (D : List Nd) (A : List (Int × List It)) (hx : KX SR B0 bk bs t wid m D A w own) (hm : m < 100000000) (r : Nat) (hc : AllC t D) (hr : Rd t D r) :
    Calls Try.prog 31 #[.pointer (some ⟨bk, 0, none⟩)] w fun e w' => e = .returned (.bool true) ∧ ∃ D', KN SR B0 bk bs t wid m D' A w own w' ∧ AllC t D' ∧ Rd t D' (r + 1) := by
  have HP : Hid (PA SR) := P
  obtain ⟨N, hN⟩ : ∃ N, t.length = N := ⟨_, rfl⟩
  have HN : Hid (t.length = N) := hN
  have HT : Hid (Tree t) := hx.tree
  have h8 := hx.tree.le
  have H0 : Hid (∃ D', KN SR B0 bk bs t wid m D' A w own w ∧ Rj t D' r 0) := ⟨D, ⟨own, hx, Same.refl _ _, Fr.refl _ _ _⟩, rj_start hc hr⟩
  clear P hx hc hr
  go_enter Try.func31, Try.ntmps31
  go_wp2
  go_loopw [3] (fun i wr => ∃ (j : Nat) (D' : List Nd), j ≤ N ∧ i = .int .i64 j ∧ KN SR B0 bk bs t wid m D' A w own wr ∧ Rj t D' r j) (fun i _ => N - (intOf i).toNat)
  case atStart =>
    obtain ⟨D', a, b⟩ := H0.out
    exact ⟨0, D', by omega, rfl, a, b⟩
  case round =>
    obtain ⟨j, D1, hj, rfl, hkn, hrj⟩ := hrel
    have HKN : Hid (KN SR B0 bk bs t wid m D1 A w own wr) := hkn
    have HRJ : Hid (Rj t D1 r j) := hrj
    obtain ⟨own1, hx1, hs1, hf1⟩ := hkn
    have HX1 : Hid (KX SR B0 bk bs t wid m D1 A wr own1 ∧ Same w own own1 ∧ Fr own notA w wr) := ⟨hx1, hs1, hf1⟩
    obtain ⟨tp, tc, c0, c1, c2, htr, htg, hgm, hbk⟩ := hx1.cells
    rw [hN] at c1
    clear hrj hx1 hs1 hf1 htr htg hgm hbk c0 c2
    by_cases hlj : j < N
    · by_cases hz : j = 0
      · subst hz
        go_wp2_with (go_at_call 47; refine (ksync_any SR HP.out.R HP.out.S wr own1 B0 bk bs t wid m D1 A HX1.out.1 hm 0 (by omega)).mono ?_; rintro e w1 ⟨rfl, hk1⟩; have HK1 : Hid (KN SR B0 bk bs t wid m (synD t D1 ((0 : Nat) : Int)) A w own w1) := KN.trans HX1.out.2.1 HX1.out.2.2 hk1; clear hk1)
        go_roundw
        case rel => exact ⟨1, _, by omega, by go_num, HK1.out, rj_root (rj_syn HT.out HRJ.out 0)⟩
        case measure => simp [intOf]; omega
      · have hnd : isNd t j = true := by simp [isNd]; omega
        have hjn : ((j : Int) == 0) = false := by simp; omega
        have HE : Hid (sndE t j 0 19 = 0) := by unfold Hid sndE; rw [if_pos hnd, if_neg (by omega), if_pos (by decide)]
        have HF : Hid (sndF t j 0 19 = j) := by unfold Hid sndF; rw [if_pos HE.out]
        obtain ⟨D2, hD2⟩ : ∃ D2, D2 = synD t D1 (j : Int) := ⟨_, rfl⟩
        have HD2 : Hid (D2 = synD t D1 (j : Int)) := hD2
        have HNJ : Hid (isNd t j = true) := hnd
        clear hnd hD2
        go_upto_region 9 with (first | (go_at_call 47; refine (ksync_any SR HP.out.R HP.out.S wr own1 B0 bk bs t wid m D1 A HX1.out.1 hm j (by omega)).mono ?_; rintro e w1 ⟨rfl, hk1⟩; rw [← HD2.out] at hk1; obtain ⟨own2, hx2, hs2, hf2⟩ := KN.trans HX1.out.2.1 HX1.out.2.2 hk1; have HX2 : Hid (KX SR B0 bk bs t wid m D2 A w1 own2 ∧ Same w own own2 ∧ Fr own notA w w1) := ⟨hx2, hs2, hf2⟩; obtain ⟨tp1, tc1, e0, e1, e2, htr1, htg1, hgm1, hbk1⟩ := hx2.cells; have HTR1 : Hid (RowsAt clInt w1 tp1 t ∧ (∀ b off, tp1 = some ⟨b, off, none⟩ → own2 b = .wd 0) ∧ own2 bk = .gm) := ⟨htr1, htg1, hgm1⟩; rw [hN] at e1; clear hk1 hx2 hs2 hf2 htr1 htg1 hgm1 e2 c1) | (go_at_call 56; refine (HP.out.D.send w1 own2 B0 bs t wid D2 HX2.out.1.st (HX2.out.1.di.mono' (by omega)) j 0 19 ⟨by omega, by omega⟩ ⟨by omega, by omega⟩ ⟨by omega, by omega⟩).mono ?_; rintro e w2 ⟨v1, rfl, ho1, hb1⟩; rw [HE.out, HF.out]; obtain ⟨s1, rfl⟩ : ∃ s1 : Sl, v1 = .slice s1.p s1.n s1.c := (by obtain ⟨p, c, e, _⟩ := ho1.form; exact ⟨⟨p, _, c⟩, e⟩); have HB1 : Hid (Below w1.heap.size w1 w2) := hb1; have HO1 : Hid (Own clIt w2 w1.heap.size 78 (.slice s1.p s1.n s1.c) (sndL t D2 j 0 19)) := ho1; clear ho1 hb1) | (refine alloc_pk rfl rfl ?_) | (refine store_pk_new rfl _ _ rfl _ s1 w2 #[.int .i64 0, .slice none 0 0] rfl rfl rfl rfl ?_))
        rename World => w2
        obtain ⟨xp, xn, xc⟩ := s1
        obtain ⟨gp, hgp⟩ : ∃ gp, gp = w2.heap.size := ⟨_, rfl⟩
        obtain ⟨w3, hw3⟩ : ∃ w3, w3 = (w2.alloc (.cells #[.int .i64 0, .slice none 0 0] 88)).setRow w2.heap.size #[.int .i64 j, .slice xp xn xc] := ⟨_, rfl⟩
        have HB3 : Hid (Below w1.heap.size w1 w3) := by unfold Hid; rw [hw3]; exact below_setRow _ (bnext HB1.out (below_alloc _ _)) HB1.out.size
        have GP : Hid (w3.heap[gp]? = some (.cells #[.int .i64 j, .slice xp xn xc] 88)) := by unfold Hid; rw [hw3, hgp]; exact setRow_blk (heap_alloc_new _ _)
        have HO3 : Hid (Own clIt w3 w1.heap.size 78 (.slice xp xn xc) (sndL t D2 j 0 19)) := by
          unfold Hid; rw [hw3]
          exact (HO1.out.below (below_alloc _ _)).chg fun i hi => setRow_other _ _ _ _ (fun e => by have := (HO1.out.lt i hi).2; omega)
        have hgpw : w1.heap.size ≤ gp := by rw [hgp]; exact HB1.out.size
        rw [← hw3, ← hgp]
        clear hw3 hgp HO1
        have HI2 : Hid (Inv t D2 (A ++ [((j : Int), sndL t D2 j 0 19)])) := inv_send HX2.out.1.inv h8 HNJ.out (by omega) 0 19 (HX2.out.1.kev (by omega))
        have HGD : Hid (Good (sndL t D2 j 0 19)) := (HI2.out.pk ((j : Int), sndL t D2 j 0 19) (by simp)).2.2.1
        obtain ⟨gt, ot, rfl, hgt, ct⟩ := HTR1.out.1.int_at (Below.refl _ _) j (by omega)
        obtain ⟨up, hup⟩ : ∃ up, t.getD j 0 = up := ⟨_, rfl⟩
        rw [← tree_get (by omega), hup] at ct
        have hT := HT.out.up j (by omega) (by omega)
        rw [hup] at hT
        have HUB : Hid (0 ≤ up ∧ up < 8) := ⟨by omega, by omega⟩
        have HUP : Hid (t.getD j 0 = up) := hup
        have HDE : Hid (delE t up j (sndL t D2 j 0 19) = 0) := by
          have := fair_pk HI2.out (p := ((j : Int), sndL t D2 j 0 19)) (by simp)
          simp only [Int.toNat_natCast, hup] at this
          unfold Hid delE; rw [if_pos (by simp [isNd]; omega), if_pos this]
        have hlen : (sndL t D2 j 0 19).length = xn := (Own.sl (s := ⟨xp, xn, xc⟩) HO3.out).1
        have hxn : xn ≤ 160 := by have := HGD.out.len; omega
        have HRW : Hid ((sndL t D2 j 0 19).length = xn ∧ RowsAt clIt w3 xp (sndL t D2 j 0 19)) := Own.sl (s := ⟨xp, xn, xc⟩) HO3.out
        have d0 : w3.cell? ⟨bk, 0, none⟩ = some (.pointer (some ⟨bs, 0, none⟩)) := cell_keep HB3.out e0
        have d1 : w3.cell? ⟨bk, 1, none⟩ = some (.slice (some ⟨gt, ot, none⟩) N tc1) := cell_keep HB3.out e1
        have dt : w3.cell? ⟨gt, ot + j, none⟩ = some (.int .i64 up) := cell_keep HB3.out ct
        have tgt : own2 gt = .wd 0 := HTR1.out.2.1 gt ot rfl
        obtain ⟨own3, hown3⟩ : ∃ own3 : Ghost, own3 = fun i => if i = gp ∨ (Value.slice xp xn xc).ownBlock = some i then .arg else own2 i := ⟨_, rfl⟩
        have HOG : Hid (own3 gp = .arg) := by unfold Hid; rw [hown3]; exact if_pos (.inl rfl)
        have HOI : Hid (∀ i, (Value.slice xp xn xc).ownBlock = some i → own3 i = .arg) := fun i hi => by rw [hown3]; exact if_pos (.inr hi)
        have HOW : Hid (∀ i, i < w1.heap.size → own3 i = own2 i) := fun i hi => by
          rw [hown3]; exact if_neg (fun e => by
            rcases e with e | e
            · omega
            · have := (HO3.out.lt i e).1; omega)
        have HX3 : Hid (KX SR B0 bk bs t wid m D2 A w3 own3) := HX2.out.1.chg HP.out.R HB3.out HOW.out
        have HGT : Hid (own3 gt = .wd 0 ∧ own3 bk = .gm) := ⟨by rw [HOW.out gt hgt]; exact tgt, by rw [HOW.out bk hbk1]; exact HTR1.out.2.2⟩
        have hgt3 : gt < w3.heap.size := by have := HB3.out.size; omega
        have hbk3 : bk < w3.heap.size := by have := HB3.out.size; omega
        have q0 : (0 : Int) ≤ (j : Int) := by omega
        have q1 : (j : Int) < (N : Int) := by omega
        clear hown3 e0 e1 ct hup hT tgt HO3 hlen
        have hT0 : (fun w' : World => w'.cell? ⟨bk, 0, none⟩ = some (.pointer (some ⟨bs, 0, none⟩)) ∧ w'.cell? ⟨bk, 1, none⟩ = some (.slice (some ⟨gt, ot, none⟩) N tc1) ∧ w'.heap[gp]? = some (.cells #[.int .i64 j, .slice xp xn xc] 88) ∧ w'.cell? ⟨gt, ot + j, none⟩ = some (.int .i64 up)) w3.drew := ⟨d0, d1, GP.out, dt⟩
        refine wp_region_held (S := fun w' : World => w'.cell? ⟨bk, 0, none⟩ = some (.pointer (some ⟨bs, 0, none⟩)) ∧ w'.cell? ⟨bk, 1, none⟩ = some (.slice (some ⟨gt, ot, none⟩) N tc1) ∧ w'.heap[gp]? = some (.cells #[.int .i64 j, .slice xp xn xc] 88) ∧ w'.cell? ⟨gt, ot + j, none⟩ = some (.int .i64 up)) mixed ?_
        refine wpAnyH_take (i := 0) (v := (.pointer (some ⟨bk, 0, none⟩))) rfl (by kernel_rfl) (by kernel_rfl) (by kernel_rfl) (fun _ _ _ h => h) (Or.inl ⟨by rfl, fun wx hx => by go_simp⟩) hT0 ?_
        try dsimp only
        try simp only [Act.put, List.getElem_toArray, List.getElem_cons_succ, List.getElem_cons_zero, List.setIfInBounds_toArray, List.set_cons_zero, List.set_cons_succ]
        refine wpAnyH_take (i := 1) (v := (.pointer (some ⟨bk, 0, none⟩))) rfl (by kernel_rfl) (by kernel_rfl) (by kernel_rfl) (fun _ _ _ h => h) (Or.inl ⟨by rfl, fun wx hx => by go_simp⟩) hT0 ?_
        try dsimp only
        try simp only [Act.put, List.getElem_toArray, List.getElem_cons_succ, List.getElem_cons_zero, List.setIfInBounds_toArray, List.set_cons_zero, List.set_cons_succ]
        refine wpAnyH_take (i := 2) (v := (.pointer (some ⟨bk, 0, none⟩))) rfl (by kernel_rfl) (by kernel_rfl) (by kernel_rfl) (fun _ _ _ h => h) (Or.inl ⟨by rfl, fun wx hx => by go_simp⟩) hT0 ?_
        try dsimp only
        try simp only [Act.put, List.getElem_toArray, List.getElem_cons_succ, List.getElem_cons_zero, List.setIfInBounds_toArray, List.set_cons_zero, List.set_cons_succ]
        refine wpAnyH_take (i := 3) (v := (.pointer (some ⟨bs, 0, none⟩))) rfl (by kernel_rfl) (by kernel_rfl) (by kernel_rfl) (fun _ _ _ h => h) (Or.inl ⟨by rfl, fun wx hx => by have hx1 := hx.1; go_simp⟩) hT0 ?_
        try dsimp only
        try simp only [Act.put, List.getElem_toArray, List.getElem_cons_succ, List.getElem_cons_zero, List.setIfInBounds_toArray, List.set_cons_zero, List.set_cons_succ]
        refine wpAnyH_take (i := 4) (v := (.pointer (some ⟨bk, 0, none⟩))) rfl (by kernel_rfl) (by kernel_rfl) (by kernel_rfl) (fun _ _ _ h => h) (Or.inl ⟨by rfl, fun wx hx => by go_simp⟩) hT0 ?_
        try dsimp only
        try simp only [Act.put, List.getElem_toArray, List.getElem_cons_succ, List.getElem_cons_zero, List.setIfInBounds_toArray, List.set_cons_zero, List.set_cons_succ]
        refine wpAnyH_take (i := 5) (v := (.pointer (some ⟨bk, 0, none⟩))) rfl (by kernel_rfl) (by kernel_rfl) (by kernel_rfl) (fun _ _ _ h => h) (Or.inl ⟨by rfl, fun wx hx => by go_simp⟩) hT0 ?_
        try dsimp only
        try simp only [Act.put, List.getElem_toArray, List.getElem_cons_succ, List.getElem_cons_zero, List.setIfInBounds_toArray, List.set_cons_zero, List.set_cons_succ]
        refine wpAnyH_take (i := 6) (v := (.pointer (some ⟨bk, 1, none⟩))) rfl (by kernel_rfl) (by kernel_rfl) (by kernel_rfl) (fun _ _ _ h => h) (Or.inl ⟨by rfl, fun wx hx => by go_simp⟩) hT0 ?_
        try dsimp only
        try simp only [Act.put, List.getElem_toArray, List.getElem_cons_succ, List.getElem_cons_zero, List.setIfInBounds_toArray, List.set_cons_zero, List.set_cons_succ]
        refine wpAnyH_take (i := 7) (v := (.slice (some ⟨gt, ot, none⟩) N tc1)) rfl (by kernel_rfl) (by kernel_rfl) (by kernel_rfl) (fun _ _ _ h => h) (Or.inl ⟨by rfl, fun wx hx => by have hx1 := hx.2.1; go_simp⟩) hT0 ?_
        try dsimp only
        try simp only [Act.put, List.getElem_toArray, List.getElem_cons_succ, List.getElem_cons_zero, List.setIfInBounds_toArray, List.set_cons_zero, List.set_cons_succ]
        refine wpAnyH_take (i := 8) (v := (.int .i64 j)) rfl (by kernel_rfl) (by kernel_rfl) (by kernel_rfl) (fun _ _ _ h => h) (Or.inl ⟨by rfl, fun wx hx => by go_simp⟩) hT0 ?_
        try dsimp only
        try simp only [Act.put, List.getElem_toArray, List.getElem_cons_succ, List.getElem_cons_zero, List.setIfInBounds_toArray, List.set_cons_zero, List.set_cons_succ]
        refine wpAnyH_take (i := 9) (v := (.pointer (some ⟨gt, ot + j, none⟩))) rfl (by kernel_rfl) (by kernel_rfl) (by kernel_rfl) (fun _ _ _ h => h) (Or.inl ⟨by rfl, fun wx hx => by go_simp⟩) hT0 ?_
        try dsimp only
        try simp only [Act.put, List.getElem_toArray, List.getElem_cons_succ, List.getElem_cons_zero, List.setIfInBounds_toArray, List.set_cons_zero, List.set_cons_succ]
        refine wpAnyH_take (i := 10) (v := (.int .i64 up)) rfl (by kernel_rfl) (by kernel_rfl) (by kernel_rfl) (fun _ _ _ h => h) (Or.inl ⟨by rfl, fun wx hx => by have hx1 := hx.2.2.2; go_simp⟩) hT0 ?_
        try dsimp only
        try simp only [Act.put, List.getElem_toArray, List.getElem_cons_succ, List.getElem_cons_zero, List.setIfInBounds_toArray, List.set_cons_zero, List.set_cons_succ]
        refine wpAnyH_take (i := 11) (v := (.agg #[.int .i64 j, .slice xp xn xc])) rfl (by kernel_rfl) (by kernel_rfl) (by kernel_rfl) (fun _ _ _ h => h) (yieldsIf_load_pk (by rfl) _ rfl _ rfl _ _ (fun wx hx => hx.2.2.1)) hT0 ?_
        try dsimp only
        try simp only [Act.put, List.getElem_toArray, List.getElem_cons_succ, List.getElem_cons_zero, List.setIfInBounds_toArray, List.set_cons_zero, List.set_cons_succ]
        refine wpAnyH_all (rs := [12]) (by kernel_rfl) (by simp) ?_
        intro jj hjj
        simp only [List.mem_cons, List.not_mem_nil, or_false] at hjj
        subst hjj
        refine wpOp_of_wp rfl rfl ?_
        go_simp
        refine (HP.out.J.deliver w3.drew own3 B0 bs t wid D2 (HP.out.R.below' HX3.out.st below_drew) (HX3.out.di.mono' (by omega)) HX3.out.b0 up j (sndL t D2 j 0 19) xp xn xc ⟨by have := HUB.out; omega, by have := HUB.out; omega⟩ ⟨by omega, by omega⟩ HRW.out.1 (HRW.out.2.below below_drew) HGD.out.ok (by omega) (fun b off e => by
          have h2 : own3 b = .arg := HOI.out b (by rw [e]; rfl)
          rw [h2]; exact ⟨by simp, fun i => by simp⟩)).mono ?_
        rintro e w5 ⟨rfl, own5, hst5, hsm5, hfr5⟩
        rw [HDE.out]
        replace hfr5 : Fr own3 isSt w3 w5 := ⟨hfr5.os, hfr5.tape, hfr5.output, hfr5.size, hfr5.block⟩
        replace hsm5 : Same w3 own3 own5 := hsm5
        have ng : own3 gp ≠ .free ∧ ¬ isSt (own3 gp) := by rw [HOG.out]; exact ⟨by simp, fun ⟨i, e⟩ => by simp at e⟩
        have nt : own3 gt ≠ .free ∧ ¬ isSt (own3 gt) := by rw [HGT.out.1]; exact ⟨by simp, fun ⟨i, e⟩ => by simp at e⟩
        have nb : own3 bk ≠ .free ∧ ¬ isSt (own3 bk) := by rw [HGT.out.2]; exact ⟨by simp, fun ⟨i, e⟩ => by simp at e⟩
        have hT1 : (fun w' : World => w'.cell? ⟨bk, 0, none⟩ = some (.pointer (some ⟨bs, 0, none⟩)) ∧ w'.cell? ⟨bk, 1, none⟩ = some (.slice (some ⟨gt, ot, none⟩) N tc1) ∧ w'.heap[gp]? = some (.cells #[.int .i64 j, .slice xp xn xc] 88) ∧ w'.cell? ⟨gt, ot + j, none⟩ = some (.int .i64 up)) w5 := ⟨cell_fr' hfr5 d0 nb.1 nb.2, cell_fr' hfr5 d1 nb.1 nb.2, by rw [hfr5.block gp (lt_of_blk GP.out) ng.1 ng.2]; exact GP.out, cell_fr' hfr5 dt nt.1 nt.2⟩
        refine ⟨hT1, ?_⟩
        try dsimp only
        try simp only [Act.put, List.getElem_toArray, List.getElem_cons_succ, List.getElem_cons_zero, List.setIfInBounds_toArray, List.set_cons_zero, List.set_cons_succ]
        refine wpAnyH_take (i := 13) (v := (.int .i64 0)) rfl (by kernel_rfl) (by kernel_rfl) (by kernel_rfl) (fun _ _ _ h => h) (Or.inl ⟨by rfl, fun wx hx => by go_simp⟩) hT1 ?_
        try dsimp only
        try simp only [Act.put, List.getElem_toArray, List.getElem_cons_succ, List.getElem_cons_zero, List.setIfInBounds_toArray, List.set_cons_zero, List.set_cons_succ]
        refine wpAnyH_done (by kernel_rfl) ?_ _
        have Z : Hid (KN SR B0 bk bs t wid m (delD t D2 (t.getD j 0) j (sndL t D2 j 0 19)) A w own w5) := by
          refine KN.trans HX2.out.2.1 HX2.out.2.2 (KN.mk HB3.out HOW.out ?_)
          obtain ⟨vt, vs, vl, C, PK, g⟩ := HX3.out
          have := kdel_done g ((j : Int), sndL t D2 j 0 19) (inv_deliver HI2.out HT.out (p := ((j : Int), sndL t D2 j 0 19)) (by simp)).drop (own2 := own5) (w2 := w5) (by simp only [Int.toNat_natCast, HUP.out]; exact hst5) hsm5 hfr5
          simpa using this
        have HRN : Hid (Rj t (delD t D2 (t.getD j 0) j (sndL t D2 j 0 19)) r (j + 1)) := by
          have := rj_next HT.out hz (by omega) HRJ.out HX1.out.1.inv (by rw [← HD2.out]; exact HI2.out)
          rw [← HD2.out] at this; exact this
        clear hT0 hT1 hst5 hsm5 hfr5 ng nt nb d0 d1 dt
        go_wp2
        go_roundw
        case rel => exact ⟨j + 1, _, by omega, by go_num, Z.out, HRN.out⟩
        case measure => simp [intOf]; omega
    · obtain rfl : j = N := by omega
      go_wp2
      go_ret
      exact ⟨rfl, D1, HKN.out, HRJ.out.c, rj_end (by omega) HRJ.out⟩
end Go.Proofs.Ytpglbakcjihohaa

/-! Rounds: a script, all leaves go on to the End, eight rounds, and all is sealed. -/
namespace Go.Proofs.Ytpglbakcjihohaa
open Go.RowKit
set_option maxRecDepth 100000

/-- The first i leaves have gone on to the End. -/
def LvC (t : List Int) (D : List Nd) (i : Nat) : Prop := ∀ (q k : Nat), q < i → (lvsTo t t.length)[q]? = some (k : Int) → ∀ d, D[k]? = some d → ∀ v : Nat, v < 20 → d.lcl v = true
theorem lvC_zero (t : List Int) (D : List Nd) : LvC t D 0 := fun q k hq => by omega
theorem lvC_step {t : List Int} {wid : Int} {D : List Nd} {i k : Nat} {d : Nd} (h : LvC t D i) (hk : (lvsTo t t.length)[i]? = some (k : Int)) (hkl : k < t.length) (hl : isLf t k = true) (hd : D[k]? = some d) (hw : 1 ≤ wid) (hm : d.lmk ≤ 20 * wid) : LvC t (advD t wid D k (20 * wid)) (i + 1) := by
  rw [adv_end hd hkl hl hw hm]
  intro q j hq hj e he v hv
  rcases set_some he with ⟨rfl, rfl⟩ | ⟨hne, he⟩
  · exact clTo_done _ _ hw v hv
  · have hqi : q < i := by
      rcases Nat.lt_or_ge q i with a | a
      · exact a
      · obtain rfl : q = i := by omega
        rw [hk] at hj
        have := Option.some.inj hj
        omega
    exact h q j hqi hj e he v hv
theorem lvC_all {t : List Int} {D : List Nd} (hld : D.length = t.length) (h : LvC t D (lvsTo t t.length).length) : AllC t D := fun k d hd hl v hv => by
  have hk : k < t.length := by have := (List.getElem?_eq_some_iff.1 hd).1; omega
  have hm : (k : Int) ∈ lvsTo t t.length := List.mem_map.2 ⟨k, List.mem_filter.2 ⟨by simpa using hk, hl⟩, rfl⟩
  obtain ⟨q, hq⟩ := List.getElem?_of_mem hm
  exact h q k (List.getElem?_eq_some_iff.1 hq).1 hq d hd v hv
/-- A run behind some steps, and a list of numbers beside it. -/
def KQ (SR : SRT) (t : List Int) (wid : Int) (w : World) (bk bs m : Nat) (D : List Nd) (A : List (Int × List It)) (lp : Option Addr) (L : List Int) (wr : World) : Prop := ∃ own', KX SR w.heap.size bk bs t wid m D A wr own' ∧ (∀ k, k < w.heap.size → own' k = .arg) ∧ Below w.heap.size w wr ∧ RowsAt clInt wr lp L ∧ ∀ b off, lp = some ⟨b, off, none⟩ → b < wr.heap.size ∧ own' b = .arg
theorem KQ.next {SR : SRT} {t : List Int} {wid : Int} {w wr w2 : World} {bk bs m : Nat} {D' : List Nd} {A' : List (Int × List It)} {lp : Option Addr} {L : List Int} {own' : Ghost} (ha : ∀ k, k < w.heap.size → own' k = .arg) (hb : Below w.heap.size w wr) (hr : RowsAt clInt wr lp L) (hl : ∀ b off, lp = some ⟨b, off, none⟩ → b < wr.heap.size ∧ own' b = .arg) (h : KN SR w.heap.size bk bs t wid m D' A' wr own' w2) : KQ SR t wid w bk bs m D' A' lp L w2 := by
  obtain ⟨own2, g, s, f⟩ := h
  have hs := hb.size
  refine ⟨own2, g, fun k hk => ?_, ⟨f.os.trans hb.os, f.tape.trans hb.tape, f.output.trans hb.output, Nat.le_trans hs f.size, fun k hk => ?_⟩, hr.chg f.size fun b off e => ?_, fun b off e => ?_⟩
  · rw [s k (by omega) (by rw [ha k hk]; simp)]; exact ha k hk
  · rw [f.block k (by omega) (by rw [ha k hk]; simp) (by rw [ha k hk]; simp [notA])]; exact hb.block k hk
  · obtain ⟨h1, h2⟩ := hl b off e
    exact f.block b h1 (by rw [h2]; simp) (by rw [h2]; simp [notA])
  · obtain ⟨h1, h2⟩ := hl b off e
    exact ⟨Nat.lt_of_lt_of_le h1 f.size, by rw [s b h1 (by rw [h2]; simp)]; exact h2⟩
/-- The leaves' list, made. -/
theorem KQ.made {SR : SRT} (R : PR SR) {t : List Int} {wid : Int} {w wr w2 : World} {bk bs m : Nat} {D : List Nd} {A : List (Int × List It)} {lp : Option Addr} {ln lc : Nat} {L : List Int} {own' : Ghost} (hx : KX SR w.heap.size bk bs t wid m D A wr own') (ha : ∀ k, k < w.heap.size → own' k = .arg) (hb : Below w.heap.size w wr) (ho : Own clInt w2 wr.heap.size 3 (.slice lp ln lc) L) (hb2 : Below wr.heap.size wr w2) : KQ SR t wid w bk bs m D A lp L w2 := by
  have hs := hb.size
  refine ⟨fun k => if k < wr.heap.size then own' k else .arg, hx.chg R hb2 (fun j hj => if_pos hj), fun k hk => ?_, bnext hb hb2, (Own.sl (s := ⟨lp, ln, lc⟩) ho).2, fun b off e => ?_⟩
  · show (if k < wr.heap.size then own' k else Tag.arg) = _
    rw [if_pos (by omega)]; exact ha k hk
  · have e1 : (Value.slice lp ln lc).ownBlock = some b := by rw [e]; rfl
    obtain ⟨h1, h2⟩ := ho.lt b e1
    exact ⟨h2, if_neg (by omega)⟩
theorem KX.nb {SR : SRT} {B0 bk bs : Nat} {t : List Int} {wid : Int} {m : Nat} {D : List Nd} {A : List (Int × List It)} {w : World} {own : Ghost} (h : KX SR B0 bk bs t wid m D A w own) : ∀ (k : Nat) (d : Nd), D[k]? = some d → NdB wid d := by obtain ⟨vt, vs, vl, C, PK, g⟩ := h; exact g.nb
set_option maxHeartbeats 16000000 in
theorem kRounds_any (SR : SRT) (P : PA SR) (raw : List Int) (hf : ∀ x ∈ raw, fitsI x) (p : Option Addr) (n c : Nat) (wd : Int) (hwd : fitsI wd) (ps : Option Addr) (sn sc : Nat) (steps : List KSt) (w : World) (hn : raw.length = n) (hr : RowsAt clInt w p raw) (hm : n ≤ 1048576) (hs : steps.length = sn) (hrs : RowsAt clKs w ps steps) (hsm : sn ≤ 1048576) (hok : ∀ x ∈ steps, x.Ok) :
    Calls Try.prog 9 #[.slice p n c, .int .i64 wd, .slice ps sn sc] w fun e w' => e = .returned (.bool true) ∧ Below w.heap.size w w' := by
  have HP : Hid (PA SR) := P
  have H : Hid ((∀ x ∈ raw, fitsI x) ∧ RowsAt clInt w p raw ∧ RowsAt clKs w ps steps ∧ ∀ x ∈ steps, x.Ok) := ⟨hf, hr, hrs, hok⟩
  clear P hf hr hrs hok
  obtain ⟨wid, hwid⟩ : ∃ wid, wid = widK wd := ⟨_, rfl⟩
  have HWID : Hid (wid = widK wd) := hwid
  obtain ⟨t, ht⟩ : ∃ t, t = trK raw := ⟨_, rfl⟩
  have HTT : Hid (t = trK raw) := ht
  have HT : Hid (Tree t) := by unfold Hid; rw [ht]; exact trK_tree raw
  have h8 := HT.out.le
  obtain ⟨N, hN⟩ : ∃ N, t.length = N := ⟨_, rfl⟩
  have HN : Hid (t.length = N) := hN
  have hN1 := HT.out.pos
  obtain ⟨LN, hLN⟩ : ∃ LN, (lvsTo t t.length).length = LN := ⟨_, rfl⟩
  have HLN : Hid ((lvsTo t t.length).length = LN) := hLN
  have hL8 : LN ≤ 8 := by have := lvsTo_len t t.length; omega
  have HLU : Hid (lvU t 0 t.length = LN) := by unfold Hid; rw [← lvs_lvU HT.out t.length (Nat.le_refl _)]; exact hLN
  clear hwid ht hLN
  go_enter Try.func9, Try.ntmps9
  go_wp2_with (go_at_call 26; refine (kbegan_any SR HP.out.R raw H.out.1 p n c wd hwd w hn H.out.2.1 (by omega)).mono ?_; rintro e w1 ⟨hb1, bk, bs, own1, rfl, hk1, ha1⟩; rw [← HTT.out, ← HWID.out] at hk1; have HK : Hid (KP SR t wid w bk bs 0 (List.replicate t.length Nd.zero) [] w1) := ⟨own1, hk1, ha1, hb1⟩; clear hk1 ha1 hb1)
  go_loopw [8] (fun i wr => ∃ (k : Nat) (D : List Nd) (A : List (Int × List It)), k ≤ sn ∧ i = .int .i64 k ∧ KP SR t wid w bk bs k D A wr) (fun i _ => sn - (intOf i).toNat)
  case atStart => exact ⟨0, _, _, by omega, rfl, HK.out⟩
  case round =>
    obtain ⟨k, D, A, hk, rfl, hkp⟩ := hrel
    obtain ⟨own', hx, ha, hb⟩ := hkp
    have HX : Hid (KX SR w.heap.size bk bs t wid k D A wr own' ∧ (∀ k, k < w.heap.size → own' k = .arg) ∧ Below w.heap.size w wr) := ⟨hx, ha, hb⟩
    clear ha hb
    by_cases hlk : k < sn
    · clear hx
      obtain ⟨gp, op, rfl, hgp, hrg⟩ := H.out.2.2.1.pos k (by omega)
      obtain ⟨x, hx⟩ : ∃ x, steps[k]? = some x := ⟨_, List.getElem?_eq_getElem (by omega)⟩
      have HRG : Hid (wr.rangeAt gp (op + k * 5) (clKs.cells x)) := range_below HX.out.2.2 hgp (hrg k x hx)
      have HO : Hid x.Ok := H.out.2.2.2 x (List.mem_of_getElem? hx)
      clear hx hrg
      go_wp2_with (first | (refine load_kst_mid rfl _ rfl _ _ rfl x (by exact HRG.out) ?_) | (go_at_call 27; refine (kstep_any SR HP.out wr own' w.heap.size bk bs t wid k D A HX.out.1 (by omega) x.kind x.a x.b x.key x.v HO.out.kind HO.out.a HO.out.b HO.out.key HO.out.v0 HO.out.v1).mono ?_; rintro e w2 ⟨rfl, D', A', hn', _⟩; have HN' : Hid (KP SR t wid w bk bs (k + 1) D' A' w2) := KP.next HX.out.2.1 HX.out.2.2 hn'; clear hn'))
      go_roundw
      case rel => exact ⟨k + 1, D', A', by omega, by go_num, HN'.out⟩
      case measure => simp [intOf]; omega
    · obtain ⟨tp, tc, c0, c1, c2, htr, htg, hgm, hbk⟩ := hx.cells
      have HTR : Hid (RowsAt clInt wr tp t) := htr
      have hwb := hx.wd
      rw [hN] at c1
      clear hx c0 c2 htr htg hgm hbk
      have hkm : k ≤ 1048576 := by omega
      go_wp2_with (go_at_call 29; refine (kleaves_any t tp N tc wr HN.out HTR.out (by omega)).mono ?_; rintro e w2 ⟨v2, rfl, ho2, hb2⟩; rw [← HN.out] at ho2; obtain ⟨lp, lc, rfl⟩ : ∃ lp lc, v2 = .slice lp LN lc := (by obtain ⟨p', c', e, _⟩ := ho2.form; exact ⟨p', c', by rw [e, HLN.out]⟩); have HQ0 : Hid (KQ SR t wid w bk bs k D A lp (lvsTo t t.length) w2) := KQ.made HP.out.R HX.out.1 HX.out.2.1 HX.out.2.2 ho2 hb2; clear ho2 hb2)
      clear c1 HX HTR hlk
      obtain ⟨en, hen⟩ : ∃ en, en = 20 * wid := ⟨_, rfl⟩
      have e20 : IntKind.i64.wrap (20 * wid) = en := by rw [hen]; exact IntWalk.i64_in _ ⟨by omega, by omega⟩
      have HEN : Hid (en = 20 * wid) := hen
      have hen1 : 0 ≤ en ∧ en ≤ 20000 := by omega
      clear hen
      go_loopw [11] (fun i wr => ∃ (q : Nat) (D : List Nd), q ≤ LN ∧ i = .int .i64 q ∧ KQ SR t wid w bk bs k D A lp (lvsTo t t.length) wr ∧ LvC t D q) (fun i _ => LN - (intOf i).toNat)
      case atStart => exact ⟨0, D, by omega, rfl, HQ0.out, lvC_zero t D⟩
      case round =>
        obtain ⟨q, D1, hq, rfl, hkq, hlv⟩ := hrel
        have HKQ : Hid (KQ SR t wid w bk bs k D1 A lp (lvsTo t t.length) wr ∧ LvC t D1 q) := ⟨hkq, hlv⟩
        by_cases hlq : q < LN
        · obtain ⟨own1, hx1, ha1, hb1, hr1, hl1⟩ := hkq
          have HX1 : Hid (KX SR w.heap.size bk bs t wid k D1 A wr own1 ∧ (∀ k, k < w.heap.size → own1 k = .arg) ∧ Below w.heap.size w wr ∧ RowsAt clInt wr lp (lvsTo t t.length) ∧ ∀ b off, lp = some ⟨b, off, none⟩ → b < wr.heap.size ∧ own1 b = .arg) := ⟨hx1, ha1, hb1, hr1, hl1⟩
          obtain ⟨tp1, tc1, c0, c1, c2, _, _, hgm1, hbk1⟩ := hx1.cells
          obtain ⟨kl, hkl, hklN, hklf⟩ := lvs_at (t := t) (N := t.length) q (by rw [HLN.out]; exact hlq)
          have HKL : Hid ((lvsTo t t.length)[q]? = some (kl : Int) ∧ kl < t.length ∧ isLf t kl = true) := ⟨hkl, hklN, hklf⟩
          obtain ⟨gl, ol, rfl, hgl, cl⟩ := hr1.int_at (Below.refl _ _) q (by rw [HLN.out]; exact hlq)
          rw [(List.getElem?_eq_some_iff.1 hkl).2] at cl
          obtain ⟨d1, hd1⟩ : ∃ d1, D1[kl]? = some d1 := ⟨_, List.getElem?_eq_getElem (by rw [hx1.inv.ld]; exact hklN)⟩
          have HD1 : Hid (D1[kl]? = some d1 ∧ d1.lmk ≤ 20 * wid) := ⟨hd1, (hx1.nb kl d1 hd1).lm1⟩
          have q0 : (0 : Int) ≤ (q : Int) := by omega
          have q1 : (q : Int) < (LN : Int) := by omega
          have HGM : Hid (own1 bk = .gm) := hgm1
          clear hlv hx1 ha1 hb1 hr1 hl1 c0 c1 hkl hklN hklf hd1 hgm1
          go_upto_region 14 with fail
          have hT0 : (fun w' : World => w'.cell? ⟨bk, 2, none⟩ = some (.int .i64 wid) ∧ w'.cell? ⟨gl, ol + q, none⟩ = some (.int .i64 kl)) wr.drew := ⟨c2, cl⟩
          refine wp_region_held (S := fun w' : World => w'.cell? ⟨bk, 2, none⟩ = some (.int .i64 wid) ∧ w'.cell? ⟨gl, ol + q, none⟩ = some (.int .i64 kl)) mixed ?_
          refine wpAnyH_take (i := 0) (v := (.pointer (some ⟨bk, 0, none⟩))) rfl (by kernel_rfl) (by kernel_rfl) (by kernel_rfl) (fun _ _ _ h => h) (Or.inl ⟨by rfl, fun wx hx => by go_simp⟩) hT0 ?_
          try dsimp only
          try simp only [Act.put, List.getElem_toArray, List.getElem_cons_succ, List.getElem_cons_zero, List.setIfInBounds_toArray, List.set_cons_zero, List.set_cons_succ]
          refine wpAnyH_take (i := 1) (v := (.slice (some ⟨gl, ol, none⟩) LN lc)) rfl (by kernel_rfl) (by kernel_rfl) (by kernel_rfl) (fun _ _ _ h => h) (Or.inl ⟨by rfl, fun wx hx => by go_simp⟩) hT0 ?_
          try dsimp only
          try simp only [Act.put, List.getElem_toArray, List.getElem_cons_succ, List.getElem_cons_zero, List.setIfInBounds_toArray, List.set_cons_zero, List.set_cons_succ]
          refine wpAnyH_take (i := 2) (v := (.int .i64 q)) rfl (by kernel_rfl) (by kernel_rfl) (by kernel_rfl) (fun _ _ _ h => h) (Or.inl ⟨by rfl, fun wx hx => by go_simp⟩) hT0 ?_
          try dsimp only
          try simp only [Act.put, List.getElem_toArray, List.getElem_cons_succ, List.getElem_cons_zero, List.setIfInBounds_toArray, List.set_cons_zero, List.set_cons_succ]
          refine wpAnyH_take (i := 3) (v := (.pointer (some ⟨gl, ol + q, none⟩))) rfl (by kernel_rfl) (by kernel_rfl) (by kernel_rfl) (fun _ _ _ h => h) (Or.inl ⟨by rfl, fun wx hx => by go_simp⟩) hT0 ?_
          try dsimp only
          try simp only [Act.put, List.getElem_toArray, List.getElem_cons_succ, List.getElem_cons_zero, List.setIfInBounds_toArray, List.set_cons_zero, List.set_cons_succ]
          refine wpAnyH_take (i := 4) (v := (.int .i64 kl)) rfl (by kernel_rfl) (by kernel_rfl) (by kernel_rfl) (fun _ _ _ h => h) (Or.inl ⟨by rfl, fun wx hx => by have hx1 := hx.2; go_simp⟩) hT0 ?_
          try dsimp only
          try simp only [Act.put, List.getElem_toArray, List.getElem_cons_succ, List.getElem_cons_zero, List.setIfInBounds_toArray, List.set_cons_zero, List.set_cons_succ]
          refine wpAnyH_take (i := 5) (v := (.pointer (some ⟨bk, 0, none⟩))) rfl (by kernel_rfl) (by kernel_rfl) (by kernel_rfl) (fun _ _ _ h => h) (Or.inl ⟨by rfl, fun wx hx => by go_simp⟩) hT0 ?_
          try dsimp only
          try simp only [Act.put, List.getElem_toArray, List.getElem_cons_succ, List.getElem_cons_zero, List.setIfInBounds_toArray, List.set_cons_zero, List.set_cons_succ]
          refine wpAnyH_take (i := 6) (v := (.pointer (some ⟨bk, 0, none⟩))) rfl (by kernel_rfl) (by kernel_rfl) (by kernel_rfl) (fun _ _ _ h => h) (Or.inl ⟨by rfl, fun wx hx => by go_simp⟩) hT0 ?_
          try dsimp only
          try simp only [Act.put, List.getElem_toArray, List.getElem_cons_succ, List.getElem_cons_zero, List.setIfInBounds_toArray, List.set_cons_zero, List.set_cons_succ]
          refine wpAnyH_take (i := 7) (v := (.pointer (some ⟨bk, 2, none⟩))) rfl (by kernel_rfl) (by kernel_rfl) (by kernel_rfl) (fun _ _ _ h => h) (Or.inl ⟨by rfl, fun wx hx => by go_simp⟩) hT0 ?_
          try dsimp only
          try simp only [Act.put, List.getElem_toArray, List.getElem_cons_succ, List.getElem_cons_zero, List.setIfInBounds_toArray, List.set_cons_zero, List.set_cons_succ]
          refine wpAnyH_take (i := 8) (v := (.int .i64 wid)) rfl (by kernel_rfl) (by kernel_rfl) (by kernel_rfl) (fun _ _ _ h => h) (Or.inl ⟨by rfl, fun wx hx => by have hx1 := hx.1; go_simp⟩) hT0 ?_
          try dsimp only
          try simp only [Act.put, List.getElem_toArray, List.getElem_cons_succ, List.getElem_cons_zero, List.setIfInBounds_toArray, List.set_cons_zero, List.set_cons_succ]
          refine wpAnyH_take (i := 9) (v := (.int .i64 en)) rfl (by kernel_rfl) (by kernel_rfl) (by kernel_rfl) (fun _ _ _ h => h) (Or.inl ⟨by rfl, fun wx hx => by go_simp⟩) hT0 ?_
          try dsimp only
          try simp only [Act.put, List.getElem_toArray, List.getElem_cons_succ, List.getElem_cons_zero, List.setIfInBounds_toArray, List.set_cons_zero, List.set_cons_succ]
          refine wpAnyH_all (rs := [10]) (by kernel_rfl) (by simp) ?_
          intro jj hjj
          simp only [List.mem_cons, List.not_mem_nil, or_false] at hjj
          subst hjj
          refine wpOp_of_wp rfl rfl ?_
          go_simp
          refine (kadv_any SR HP.out.R HP.out.L wr.drew own1 w.heap.size bk bs t wid k D1 A (HX1.out.1.below HP.out.R below_drew) (by omega) kl HKL.out.2.1 HKL.out.2.2 en ⟨by omega, by omega⟩).mono ?_
          rintro e w3 ⟨rfl, tm, _, _, htm, hkn⟩
          rw [htm HEN.out] at hkn
          clear htm
          have hkn2 : KN SR w.heap.size bk bs t wid k (advD t wid D1 kl (20 * wid)) A wr own1 w3 := KN.mk below_drew (fun _ _ => rfl) hkn
          have HQ2 : Hid (KQ SR t wid w bk bs k (advD t wid D1 kl (20 * wid)) A (some ⟨gl, ol, none⟩) (lvsTo t t.length) w3) := KQ.next HX1.out.2.1 HX1.out.2.2.1 HX1.out.2.2.2.1 HX1.out.2.2.2.2 hkn2
          have hT1 : (fun w' : World => w'.cell? ⟨bk, 2, none⟩ = some (.int .i64 wid) ∧ w'.cell? ⟨gl, ol + q, none⟩ = some (.int .i64 kl)) w3 := by
            obtain ⟨own3, hx3, _, f3⟩ := hkn2
            obtain ⟨_, _, _, _, e2, _⟩ := hx3.cells
            have hg2 := (HX1.out.2.2.2.2 gl ol rfl).2
            exact ⟨e2, cell_fr' f3 cl (by rw [hg2]; simp) (by rw [hg2]; simp [notA])⟩
          refine ⟨hT1, ?_⟩
          try dsimp only
          try simp only [Act.put, List.getElem_toArray, List.getElem_cons_succ, List.getElem_cons_zero, List.setIfInBounds_toArray, List.set_cons_zero, List.set_cons_succ]
          refine wpAnyH_take (i := 11) (v := (.bool true)) rfl (by kernel_rfl) (by kernel_rfl) (by kernel_rfl) (fun _ _ _ h => h) (Or.inl ⟨by rfl, fun wx hx => by go_simp⟩) hT1 ?_
          try dsimp only
          try simp only [Act.put, List.getElem_toArray, List.getElem_cons_succ, List.getElem_cons_zero, List.setIfInBounds_toArray, List.set_cons_zero, List.set_cons_succ]
          refine wpAnyH_done (by kernel_rfl) ?_ _
          have HL2 : Hid (LvC t (advD t wid D1 kl (20 * wid)) (q + 1)) := lvC_step HKQ.out.2 HKL.out.1 HKL.out.2.1 HKL.out.2.2 HD1.out.1 hwb.1 HD1.out.2
          clear hT0 hT1 hkn hkn2 c2 cl
          go_wp2
          go_roundw
          case rel => exact ⟨q + 1, _, by omega, by go_num, HQ2.out, HL2.out⟩
          case measure => simp [intOf]; omega
        · obtain rfl : LN = q := by omega
          have HAC : Hid (AllC t D1) := by
            obtain ⟨own1, hx1, _⟩ := hkq
            exact lvC_all hx1.inv.ld (by rw [HLN.out]; exact hlv)
          have HR0 : Hid (Rd t D1 0) := by
            obtain ⟨own1, hx1, _⟩ := hkq
            exact rd_zero hx1.inv HAC.out
          clear hkq hlv
          go_wp2
          clear e20 hlq
          go_loopw [13] (fun i wr => ∃ (r : Nat) (D : List Nd), r ≤ 8 ∧ i = .int .i64 r ∧ KQ SR t wid w bk bs k D A lp (lvsTo t t.length) wr ∧ AllC t D ∧ Rd t D r) (fun i _ => 8 - (intOf i).toNat)
          case atStart => exact ⟨0, D1, by omega, rfl, HKQ.out.1, HAC.out, HR0.out⟩
          case round =>
            obtain ⟨r, D2, hr8, rfl, hkq, hac, hrd⟩ := hrel
            obtain ⟨own2, hx2, ha2, hb2, hr2, hl2⟩ := hkq
            have HX2 : Hid (KX SR w.heap.size bk bs t wid k D2 A wr own2 ∧ (∀ k, k < w.heap.size → own2 k = .arg) ∧ Below w.heap.size w wr ∧ RowsAt clInt wr lp (lvsTo t t.length) ∧ ∀ b off, lp = some ⟨b, off, none⟩ → b < wr.heap.size ∧ own2 b = .arg) := ⟨hx2, ha2, hb2, hr2, hl2⟩
            have HRD : Hid (AllC t D2 ∧ Rd t D2 r) := ⟨hac, hrd⟩
            clear hac hrd ha2 hb2 hr2 hl2
            by_cases hlr : r < 8
            · clear hx2
              go_wp2_with (go_at_call 31; refine (kround_any SR HP.out wr own2 w.heap.size bk bs t wid k D2 A HX2.out.1 (by omega) r HRD.out.1 HRD.out.2).mono ?_; rintro e w3 ⟨rfl, D3, hkn, hac3, hrd3⟩; have HQ3 : Hid (KQ SR t wid w bk bs k D3 A lp (lvsTo t t.length) w3 ∧ AllC t D3 ∧ Rd t D3 (r + 1)) := ⟨KQ.next HX2.out.2.1 HX2.out.2.2.1 HX2.out.2.2.2.1 HX2.out.2.2.2.2 hkn, hac3, hrd3⟩; clear hkn hac3 hrd3)
              go_roundw
              case rel => exact ⟨r + 1, _, by omega, by go_num, HQ3.out.1, HQ3.out.2.1, HQ3.out.2.2⟩
              case measure => simp [intOf]; omega
            · obtain rfl : r = 8 := by omega
              have HRT := rd_root HT.out HRD.out.2
              obtain ⟨_, _, c0, _⟩ := hx2.cells
              have C0 : Hid (wr.cell? ⟨bk, 0, none⟩ = some (.pointer (some ⟨bs, 0, none⟩))) := c0
              have HDI : Hid (DI D2 100000000) := hx2.di.mono' (by omega)
              have HEVO : Hid (∀ (k : Nat) (d : Nd), D2[k]? = some d → EvOk d.lev) := hx2.ev
              have HAL : Hid (∀ lo n : Nat, lo + n ≤ 20 → 1 ≤ n → ∀ hi : Int, hi = (lo : Int) + n - 1 → askErr t 0 lo hi = 0 ∧ (askAn t (lvAt t D2 0) 0 lo hi).sealed = true ∧ (askAn t (lvAt t D2 0) 0 lo hi).closed = ((LN * n : Nat) : Int) ∧ (askAn t (lvAt t D2 0) 0 lo hi).sk = totTo D2 lo n t.length ∧ (totTo D2 lo n t.length).Ok) := fun lo n hln hn1 hi hhi => by
                have he : askErr t 0 lo hi = 0 := by unfold askErr; rw [if_pos (by simp [isNd]; omega), if_pos (by simp [isRg]; omega)]
                obtain ⟨a1, a2⟩ := seal_yes HT.out hx2.inv (by omega) HDI.out HEVO.out lo n hln hi hhi he HRT
                rw [HLU.out] at a2
                exact ⟨he, a1, a2, seal_tot HT.out hx2.inv (by omega) HDI.out HEVO.out lo n hln hi hhi a1 he, totTo_ok HEVO.out lo n _ (by rw [hx2.inv.ld]; exact Nat.le_refl _)⟩
              clear HRT c0 hx2
              go_wp2
              obtain ⟨wA, hwA⟩ : ∃ wA, wA = wr := ⟨_, rfl⟩
              have HXA : Hid (KX SR w.heap.size bk bs t wid k D2 A wA own2 ∧ Below w.heap.size w wA) := by rw [hwA]; exact ⟨HX2.out.1, HX2.out.2.2.1⟩
              have CA : Hid (wA.cell? ⟨bk, 0, none⟩ = some (.pointer (some ⟨bs, 0, none⟩))) := by rw [hwA]; exact C0.out
              rw [← hwA]
              clear hwA C0 HX2
              go_loopw [15] (fun i wr => ∃ q : Nat, q ≤ 20 ∧ i = .int .i64 q ∧ Below wA.heap.size wA wr) (fun i _ => 20 - (intOf i).toNat)
              case atStart => exact ⟨0, by omega, rfl, Below.refl _ _⟩
              case round =>
                obtain ⟨q, hq, rfl, hb⟩ := hrel
                have c0 := cell_keep hb CA.out
                have HBq : Hid (Below wA.heap.size wA wr) := hb
                clear hb
                by_cases hlq : q < 20
                · obtain ⟨he0, hse, hcl, htot, hokt⟩ := HAL.out q 1 (by omega) (by omega) q (by omega)
                  obtain ⟨an, han⟩ : ∃ an, an = askAn t (lvAt t D2 0) 0 q q := ⟨_, rfl⟩
                  have HAN : Hid (askAn t (lvAt t D2 0) 0 q q = an) := han.symm
                  rw [← han] at hse hcl htot
                  have HE : Hid (askErr t 0 q q = 0) := he0
                  have HSE : Hid (an.sealed = true ∧ an.closed = (LN : Int) ∧ an.sk = totTo D2 q 1 t.length ∧ an.sk.Ok) := ⟨hse, by rw [hcl]; simp, htot, by rw [htot]; exact hokt⟩
                  clear han hse hcl htot hokt he0
                  go_upto_region 28 with (first | (go_at_call 32; refine (HP.out.R.ask wr own2 w.heap.size bs t wid D2 (HP.out.R.below' HXA.out.1.st HBq.out) HDI.out 0 q q ⟨by omega, by omega⟩ ⟨by omega, by omega⟩ ⟨by omega, by omega⟩).mono ?_; rintro e w2 ⟨AA, rfl, hA, hb2⟩; rw [HE.out]; rw [HAN.out] at hA; have HA : Hid (IsAn AA an) := hA; have HB2 : Hid (Below wA.heap.size wA w2) := bnext HBq.out hb2; clear hA hb2) | (refine alloc_an rfl rfl ?_; intro Z hZ) | (refine store_an_new rfl _ _ rfl AA _ _ rfl rfl (by rfl) HA.out hZ ?_) | (go_at_call 33; refine (ktotal_any SR HP.out.R _ own2 w.heap.size bk bs t wid k D2 A (HXA.out.1.below HP.out.R (bnext HB2.out (below_alloc _ _))) (by omega) q 1 (by omega) q (by omega)).mono ?_; rintro e w4 ⟨M, rfl, hM, hb4⟩; have HM : Hid (IsSk M (totTo D2 q 1 t.length)) := hM; have GA4 : Hid (w4.heap[w2.heap.size]? = some (.cells AA 63)) := keep hb4 (heap_alloc_new _ _); have HB4 : Hid (Below wA.heap.size wA w4) := bnext (bnext HB2.out (below_alloc _ _)) hb4; clear hM hb4) | (refine alloc_sk rfl rfl ?_; intro Z2 hZ2) | (refine store_sk_new rfl _ _ rfl M _ _ rfl rfl (by rfl) HM.out hZ2 ?_))
                  rename World => w4
                  obtain ⟨w5, hw5⟩ : ∃ w5, w5 = w4.alloc (.cells M 27) := ⟨_, rfl⟩
                  have GA5 : Hid (w5.heap[w2.heap.size]? = some (.cells AA 63)) := by unfold Hid; rw [hw5]; exact blk_old GA4.out
                  have GM5 : Hid (w5.heap[w4.heap.size]? = some (.cells M 27)) := by unfold Hid; rw [hw5]; exact heap_alloc_new _ _
                  have HB5 : Hid (Below wA.heap.size wA w5) := by unfold Hid; rw [hw5]; exact bnext HB4.out (below_alloc _ _)
                  have s28 : w5.cell? ⟨w2.heap.size, 28, none⟩ = some (.bool true) := by rw [cell_of_row _ _ _ _ _ _ GA5.out, ← HSE.out.1]; exact HA.out.get28
                  have s29 : w5.cell? ⟨w2.heap.size, 29, none⟩ = some (.int .i64 LN) := by rw [cell_of_row _ _ _ _ _ _ GA5.out, ← HSE.out.2.1]; exact HA.out.get29
                  rw [← hw5]
                  clear hw5 GA4
                  try dsimp only
                  try simp only [Act.put, List.getElem_toArray, List.getElem_cons_succ, List.getElem_cons_zero, List.setIfInBounds_toArray, List.set_cons_zero, List.set_cons_succ]
                  have HM5 : Hid (IsSk M an.sk) := by unfold Hid; rw [HSE.out.2.2.1]; exact HM.out
                  go_wp2_with (first | (refine load_sk_mid_g (by rfl) _ rfl _ 0 rfl an.sk (by exact HA.out.range0 GA5.out) ?_; intro S hS; have hSM : S = M := hS.trans HM5.out.symm; subst hSM) | (refine load_sk_g (by rfl) _ rfl _ rfl _ _ HM5.out (by exact GM5.out) ?_) | (refine neq_sk_g (by rfl) _ _ _ rfl _ _ HM5.out HSE.out.2.2.2 rfl rfl ?_))
                  go_roundw
                  case rel => first | exact ⟨q + 1, by omega, by go_num, HB5.out⟩ | ((repeat apply Exists.intro); exact ⟨⟨q + 1, by omega, by go_num, HB5.out⟩, rfl⟩)
                  case measure => simp [intOf]; omega
                · obtain rfl : q = 20 := by omega
                  obtain ⟨he0, hse, hcl, htot, hokt⟩ := HAL.out 0 20 (by omega) (by omega) 19 (by omega)
                  obtain ⟨an, han⟩ : ∃ an, an = askAn t (lvAt t D2 0) 0 0 19 := ⟨_, rfl⟩
                  have HAN : Hid (askAn t (lvAt t D2 0) 0 0 19 = an) := han.symm
                  replace hse : (askAn t (lvAt t D2 0) 0 0 19).sealed = true := hse
                  replace hcl : (askAn t (lvAt t D2 0) 0 0 19).closed = ((LN * 20 : Nat) : Int) := hcl
                  replace htot : (askAn t (lvAt t D2 0) 0 0 19).sk = totTo D2 0 20 t.length := htot
                  rw [← han] at hse hcl htot
                  have HE : Hid (askErr t 0 0 19 = 0) := he0
                  obtain ⟨lm, hlm⟩ : ∃ lm : Int, lm = (LN : Int) * 20 := ⟨_, rfl⟩
                  have e20 : IntKind.i64.wrap ((LN : Int) * 20) = lm := by rw [hlm]; exact IntWalk.i64_in _ ⟨by omega, by omega⟩
                  have HSE : Hid (an.sealed = true ∧ an.closed = lm ∧ an.sk = totTo D2 0 20 t.length ∧ an.sk.Ok) := ⟨hse, by rw [hcl, hlm]; simp, htot, by rw [htot]; exact hokt⟩
                  clear han hse hcl htot hokt he0 hlm
                  go_upto_region 32 with (first | (go_at_call 32; refine (HP.out.R.ask wr own2 w.heap.size bs t wid D2 (HP.out.R.below' HXA.out.1.st HBq.out) HDI.out 0 0 19 ⟨by omega, by omega⟩ ⟨by omega, by omega⟩ ⟨by omega, by omega⟩).mono ?_; rintro e w2 ⟨AA, rfl, hA, hb2⟩; rw [HE.out]; rw [HAN.out] at hA; have HA : Hid (IsAn AA an) := hA; have HB2 : Hid (Below wA.heap.size wA w2) := bnext HBq.out hb2; clear hA hb2) | (refine alloc_an rfl rfl ?_; intro Z hZ) | (refine store_an_new rfl _ _ rfl AA _ _ rfl rfl (by rfl) HA.out hZ ?_) | (go_at_call 33; refine (ktotal_any SR HP.out.R _ own2 w.heap.size bk bs t wid k D2 A (HXA.out.1.below HP.out.R (bnext HB2.out (below_alloc _ _))) (by omega) 0 20 (by omega) 19 (by omega)).mono ?_; rintro e w4 ⟨M, rfl, hM, hb4⟩; have HM : Hid (IsSk M (totTo D2 0 20 t.length)) := hM; have GA4 : Hid (w4.heap[w2.heap.size]? = some (.cells AA 63)) := keep hb4 (heap_alloc_new _ _); have HB4 : Hid (Below wA.heap.size wA w4) := bnext (bnext HB2.out (below_alloc _ _)) hb4; clear hM hb4) | (refine alloc_sk rfl rfl ?_; intro Z2 hZ2) | (refine store_sk_new rfl _ _ rfl M _ _ rfl rfl (by rfl) HM.out hZ2 ?_))
                  rename World => w4
                  obtain ⟨w5, hw5⟩ : ∃ w5, w5 = w4.alloc (.cells M 27) := ⟨_, rfl⟩
                  have GA5 : Hid (w5.heap[w2.heap.size]? = some (.cells AA 63)) := by unfold Hid; rw [hw5]; exact blk_old GA4.out
                  have GM5 : Hid (w5.heap[w4.heap.size]? = some (.cells M 27)) := by unfold Hid; rw [hw5]; exact heap_alloc_new _ _
                  have HB5 : Hid (Below w.heap.size w w5) := by unfold Hid; rw [hw5]; exact bnext HXA.out.2 (bnext HB4.out (below_alloc _ _))
                  have s28 : w5.cell? ⟨w2.heap.size, 28, none⟩ = some (.bool true) := by rw [cell_of_row _ _ _ _ _ _ GA5.out, ← HSE.out.1]; exact HA.out.get28
                  have s29 : w5.cell? ⟨w2.heap.size, 29, none⟩ = some (.int .i64 lm) := by rw [cell_of_row _ _ _ _ _ _ GA5.out, ← HSE.out.2.1]; exact HA.out.get29
                  rw [← hw5]
                  clear hw5 GA4
                  try dsimp only
                  try simp only [Act.put, List.getElem_toArray, List.getElem_cons_succ, List.getElem_cons_zero, List.setIfInBounds_toArray, List.set_cons_zero, List.set_cons_succ]
                  have HM5 : Hid (IsSk M an.sk) := by unfold Hid; rw [HSE.out.2.2.1]; exact HM.out
                  go_wp2_with (first | (refine load_sk_mid_g (by rfl) _ rfl _ 0 rfl an.sk (by exact HA.out.range0 GA5.out) ?_; intro S hS; have hSM : S = M := hS.trans HM5.out.symm; subst hSM) | (refine load_sk_g (by rfl) _ rfl _ rfl _ _ HM5.out (by exact GM5.out) ?_) | (refine eql_sk_g (by rfl) _ _ _ rfl _ _ HM5.out HSE.out.2.2.2 rfl rfl ?_))
                  go_ret
                  exact ⟨rfl, HB5.out⟩
end Go.Proofs.Ytpglbakcjihohaa
