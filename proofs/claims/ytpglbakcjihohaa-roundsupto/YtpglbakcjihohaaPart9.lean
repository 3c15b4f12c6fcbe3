/-
  Own texts, laid together: What a run begins with; what 'fold' answers for every list of events. A run looks at an item: it is the sketch of just the first events of its leaf. A leaf has an item of just the windows in which it has taken something in, or which are closed. The sketch of all events of all leaves in some windows. What the root calls sealed is the sketch of all events of those windows; once the root has every leaf's last item it calls them sealed (no program is named here). A run looks at all that is known: every item is as it must be, every leaf has its own, what is sealed is all. A key cut short. One step of a run. A sketch that comes in as an argument is twenty-eight cells, each a number that fits its kind. A list of numbers and a script of plain steps that come in as arguments, opened: their cells in memory, and that all of them fit. A store is opened; a run's first state. A run begins. The statements that play plain steps: the walk of a script; Exact.
-/
import Derived.StillTailTactics
import Derived.BigQuiet
import Derived.Test.YtpglbakcjihohaaRows
import Derived.ProofKit
import Derived.OpenShut
import Derived.Deep.Slices
import Derived.Test.YtpglbakcjihohaaPart8
set_option linter.unusedSimpArgs false
set_option linter.unusedVariables false
set_option linter.deprecated false
/-! What a run begins with; what 'fold' answers for every list of events. -/
namespace Go.Proofs.Ytpglbakcjihohaa
open Go.RowKit
set_option maxRecDepth 100000

/-- The events l lie where the slice leads. -/
def KEvs (w : World) (a : Option Addr) (l : List Ev) : Prop :=
  AllOk l ∧ (l = [] ∨ ∃ b off, a = some ⟨b, off, none⟩ ∧ b < w.heap.size ∧ ∀ i (h : i < l.length), w.cell? ⟨b, off + i * 2, none⟩ = some (.string l[i].key) ∧ w.cell? ⟨b, off + i * 2 + 1, none⟩ = some (.int .i32 l[i].v))
theorem KEvs.below {w w' : World} {a : Option Addr} {l : List Ev} (h : KEvs w a l) (hb : Below w.heap.size w w') : KEvs w' a l := by
  refine ⟨h.1, ?_⟩
  rcases h.2 with h | ⟨b, off, ha, hlt, hc⟩
  · exact .inl h
  · refine .inr ⟨b, off, ha, Nat.lt_of_lt_of_le hlt hb.size, fun i hi => ?_⟩
    obtain ⟨c1, c2⟩ := hc i hi
    exact ⟨by rw [hb.cell (p := ⟨b, off + i * 2, none⟩) hlt]; exact c1, by rw [hb.cell (p := ⟨b, off + i * 2 + 1, none⟩) hlt]; exact c2⟩

section
variable {ops : Array Oper} {rest : List Oper} {o : Oper} {a : Act} {w : World} {Q : Act → Prop}
theorem still_load_sk' (hw : Region.wanted o (yielded ops a.tmps) = true) (x : Operand) (ho : o.op = .load 27 x) (g : Nat) (hx : a.eval x = .pointer (some ⟨g, 0, none⟩)) (A : Array Value) (s : Sk) (hA : IsSk A s)
    (hg : w.heap[g]? = some (.cells A 27)) (h : wpStill Try.prog ops w Q rest (a.put o.dst (.agg A))) : wpStill Try.prog ops w Q (o :: rest) a :=
  wpStill_step fun _ hK => by
    rw [if_pos hw]
    unfold Oper.still execOp
    simp only [ho, hx, Instr.loadAt, Instr.sureAddr, Sem.run_bind, Sem.run_pure, Result.andThen_ok, run_loadVar_row w g _ _ A (0, 0) _ hg Try.underlying27 rfl (info_sk hA), Oper.stillUpon]
    exact ⟨trivial, hK _ h⟩
end

set_option maxHeartbeats 1000000 in
set_option maxRecDepth 100000 in
theorem kfold_any (l : List Ev) (a : Option Addr) (n cap : Nat) (w : World) (hn : l.length = n) (he : KEvs w a l) (hm : n ≤ maxLen) :
    Calls Try.prog 23 #[.slice a n cap] w fun e w' => ∃ M, e = .returned (.agg M) ∧ IsSk M (F l) ∧ Below w.heap.size w w' := by
  unfold maxLen at hm
  obtain ⟨hok, he⟩ := he
  rcases he with rfl | ⟨b, off, rfl, hlt, hcell⟩
  · obtain rfl : n = 0 := hn.symm
    clear hn
    go_enter Try.func23, Try.ntmps23
    go_wp2_with (first | (refine alloc_sk rfl rfl ?_; intro Z hZ) | (go_at_call 11; refine (tempty_any _).mono ?_; rintro e w1 ⟨E, rfl, hE, hb⟩; have gZ := keep hb (heap_alloc_new w _); have HZ := hZ.size; have HB := bnext (below_alloc _ _) hb; clear hb) | (refine store_sk_new rfl _ _ rfl E _ _ rfl rfl (by rfl) hE hZ ?_))
    refine wp_loop_once ?_
    go_wp2_with (first | (refine load_sk rfl _ rfl _ rfl _ _ hE (by exact heap_alloc_new _ _) ?_) | (refine store_sk rfl _ _ rfl E _ rfl rfl hE (by exact blk_old gZ) HZ ?_))
    exact bodyPost_ret (results_sk rfl _ _ _ E _ hE rfl (setRow_blk (blk_old gZ))) rfl ⟨E, rfl, hE, below_setRow _ (bnext HB (below_alloc _ _)) (Nat.le_refl _)⟩
  · go_enter Try.func23, Try.ntmps23
    go_wp2_with (first | (refine alloc_sk rfl rfl ?_; intro Z hZ) | (go_at_call 11; refine (tempty_any _).mono ?_; rintro e w1 ⟨E, rfl, hE, hb⟩; have gZ := keep hb (heap_alloc_new w _); have HZ := hZ.size; have HB := bnext (below_alloc _ _) hb; clear hb; obtain ⟨Y, hY⟩ : ∃ Y, Y = Z := ⟨_, rfl⟩; rw [← hY] at gZ HZ; clear hY hZ) | (refine store_sk_new rfl _ _ rfl E _ _ rfl rfl (by rfl) hE hZ ?_))
    have hlt1 := lt_of_blk gZ
    go_loopw [4] (fun i wr => ∃ (k : Nat) (M : Array Value), k ≤ n ∧ i = .int .i64 k ∧ IsSk M (F (l.take k)) ∧ Below w.heap.size w wr ∧ wr.heap[w.heap.size]? = some (.cells Y 27) ∧ wr.heap[w1.heap.size]? = some (.cells M 27)) (fun i _ => n - (intOf i).toNat)
    case atStart => exact ⟨0, E, by omega, rfl, hE, bnext HB (below_alloc _ _), blk_old gZ, heap_alloc_new _ _⟩
    case round =>
      clear hE
      obtain ⟨k, M, hk, rfl, hM, hB, gY, gM⟩ := hrel
      have okk := F_ok _ (hok.take k)
      by_cases hlk : k < n
      · obtain ⟨c1, c2⟩ := hcell k (by omega)
        have hev := hok l[k] (List.getElem_mem (by omega))
        have hstep := F_take l k (by omega)
        obtain ⟨⟨key, v⟩, hx⟩ : ∃ e : Ev, e = l[k] := ⟨_, rfl⟩
        rw [← hx] at c1 c2 hev hstep
        clear hx
        have d1 : wr.cell? ⟨b, off + k * 2, none⟩ = some (.string key) := by rw [hB.cell (p := ⟨b, off + k * 2, none⟩) hlt]; exact c1
        have d2 : wr.cell? ⟨b, off + k * 2 + 1, none⟩ = some (.int .i32 v) := by rw [hB.cell (p := ⟨b, off + k * 2 + 1, none⟩) hlt]; exact c2
        have HS : Hid (F (l.take (k + 1)) = mrg (F (l.take k)) (one key.data.toList v)) := hstep
        have l0 := hev.len
        have v0 := hev.v0
        have v1 := hev.v1
        clear c1 c2 hev hstep
        go_wp2
        refine wp_region_still_tail 11 mixed (by kernel_rfl) ?_
        simp only [List.take_succ_cons, List.take_zero, List.drop_succ_cons, List.drop_zero]
        refine still_load_sk' (by rfl) _ rfl _ rfl M _ hM (by exact gM) ?_
        repeat still_step
        refine wpStill_nil ?_
        go_wp2_with fail
        refine (tadd_any _ M hM okk key v _ l0 v0 v1).mono ?_
        rintro e w2 ⟨R, rfl, hR, hb⟩
        have hb' : Below wr.heap.size wr w2 := ⟨hb.os, hb.tape, hb.output, hb.size, hb.block⟩
        replace gY := keep hb' gY
        replace gM := keep hb' gM
        replace hB := bnext hB hb'
        clear hb hb'
        rw [← HS.out] at hR
        go_wp2_with (refine store_sk rfl _ _ rfl R _ rfl rfl hR (by exact gM) hM.size ?_)
        go_roundw
        case rel => exact ⟨k + 1, R, by omega, by go_num, hR, below_setRow _ hB (Nat.le_of_lt hlt1), setRow_oth (by omega) gY, setRow_blk gM⟩
        case measure => simp [intOf]; omega
      · obtain rfl : k = n := by omega
        rw [List.take_of_length_le (by omega)] at hM
        go_wp2_with (first | (refine load_sk rfl _ rfl _ rfl M _ hM (by exact gM) ?_) | (refine store_sk rfl _ _ rfl M _ rfl rfl hM (by exact gY) HZ ?_))
        exact bodyPost_ret (results_sk rfl _ _ _ M _ hM rfl (setRow_blk gY)) rfl ⟨M, rfl, hM, below_setRow _ hB (Nat.le_refl _)⟩
theorem kevs_rows {w : World} {p : Option Addr} {l : List Ev} (h : RowsAt clE w p l) (hok : AllOk l) : KEvs w p l := by
  refine ⟨hok, ?_⟩
  rcases h with h | ⟨b, off, ha, hlt, hc⟩
  · exact .inl h
  · refine .inr ⟨b, off, ha, hlt, fun i hi => ?_⟩
    have h1 := hc i l[i] (List.getElem?_eq_getElem hi)
    exact ⟨h1 0 _ rfl, h1 1 _ rfl⟩
theorem skOf_F (l : List Ev3) : skOf l = F (l.map evOf) := by
  suffices H : ∀ (l : List Ev3) (s : Sk), l.foldl (fun s e => mrg s (one e.key.data.toList e.v)) s = Fgo s (l.map evOf) from H l _
  intro l
  induction l with
  | nil => intro s; rfl
  | cons e l ih => intro s; exact ih _
theorem evK_allok {l : List Ev3} (h : EvOk l) (k : Int) : AllOk ((evK l k).map evOf) := fun e he => by
  obtain ⟨x, hx, rfl⟩ := List.mem_map.1 he
  obtain ⟨i, hi⟩ := List.getElem?_of_mem (List.mem_filter.1 hx).1
  have := h i x hi
  exact ⟨this.key, this.v0, this.v1⟩
end Go.Proofs.Ytpglbakcjihohaa

/-! A run looks at an item: it is the sketch of just the first events of its leaf. -/
namespace Go.Proofs.Ytpglbakcjihohaa
open Go.RowKit
set_option maxRecDepth 100000

/-- An item anywhere, of the living events of its leaf. -/
structure ItIs (t : List Int) (D : List Nd) (x : It) : Prop where
  l0 : 0 ≤ x.leaf
  l1 : x.leaf < t.length
  w0 : 0 ≤ x.win
  w1 : x.win < 20
  v0 : 0 ≤ x.ver
  of : ∃ d, D[x.leaf.toNat]? = some d ∧ x.ver ≤ ((evK d.lev x.win).length : Int) ∧ x.sk = skOf ((evK d.lev x.win).take x.ver.toNat) ∧ (x.fin = true → d.lcl x.win.toNat = true ∧ x.ver = ((evK d.lev x.win).length : Int))
theorem Xct.is {t : List Int} {D : List Nd} {A : List (Int × List It)} (h : Inv t D A) {x : It} (hx : Xct t D x) : ItIs t D x := by
  obtain ⟨d, h1, h2, h3, h4⟩ := hx.of
  have hn := nd_nat hx.nd
  have hv := hx.v0
  obtain ⟨r, hr⟩ := h.pre _ d h1
  refine ⟨by omega, by omega, hx.w0, hx.w1, hx.v0, d, h1, ?_, ?_, fun hf => ?_⟩
  · rw [hr, evK_app, List.length_append]; omega
  · rw [hr, evK_app, List.take_append_of_le_length (by omega)]; exact h3
  · obtain ⟨e1, e2⟩ := h4 hf
    have hw : ((x.win.toNat : Nat) : Int) = x.win := by have := hx.w0; omega
    obtain ⟨e3, e4⟩ := h.cl _ d h1 x.win.toNat (by have := hx.w1; have := hx.w0; omega) e1
    rw [hw] at e4
    exact ⟨e3, by rw [e4]; exact e2⟩
/-- All items that a node shows are so. -/
theorem lvAt_is {t : List Int} {D : List Nd} {A : List (Int × List It)} (h : Inv t D A) (k : Nat) (hk : k < t.length) (x : It) (hx : x ∈ lvAt t D k) : ItIs t D x := by
  have hnd : isNd t k = true := by simp [isNd]; omega
  unfold lvAt at hx
  rw [if_pos hnd] at hx
  have hd : D[k]? = some (D[k]'(by have := h.ld; omega)) := List.getElem?_eq_getElem _
  obtain ⟨d, hde⟩ : ∃ d, d = D[k]'(by have := h.ld; omega) := ⟨_, rfl⟩
  rw [← hde] at hd
  simp only [Int.toNat_natCast, hd, Option.map_some, Option.getD_some] at hx
  unfold lvg at hx
  split at hx
  · unfold known knownTo at hx
    obtain ⟨v, hv, rfl⟩ := List.mem_map.1 hx
    have hv20 : v < 20 := by have := (List.mem_filter.1 hv).1; simpa using this
    refine ⟨by simp [itOf], by simp [itOf]; omega, by simp [itOf], by simp [itOf]; omega, by simp [itOf], d, by simpa [itOf] using hd, by simp [itOf], by simp [itOf], fun hf => ⟨by simpa [itOf] using hf, by simp [itOf]⟩⟩
  · exact (h.it k d hd x (.inl hx)).1.is h
theorem ItIs.nat {t : List Int} {D : List Nd} {x : It} (h : ItIs t D x) : ∃ lf wn vr : Nat, x.leaf = lf ∧ x.win = wn ∧ x.ver = vr ∧ lf < t.length ∧ wn < 20 ∧ ∃ d, D[lf]? = some d ∧ vr ≤ (evK d.lev wn).length ∧ x.sk = skOf ((evK d.lev wn).take vr) ∧ (x.fin = true → d.lcl wn = true ∧ vr = (evK d.lev wn).length) := by
  obtain ⟨d, h1, h2, h3, h4⟩ := h.of
  have e1 : x.leaf = (x.leaf.toNat : Nat) := by have := h.l0; omega
  have e3 : x.ver = (x.ver.toNat : Nat) := by have := h.v0; omega
  have b1 := h.l1
  have b2 := h.w1
  have b0 := h.w0
  obtain ⟨wn, e2⟩ : ∃ wn : Nat, x.win = wn := ⟨x.win.toNat, by omega⟩
  rw [e2] at h2 h3 h4
  rw [Int.toNat_natCast] at h4
  refine ⟨_, _, _, e1, e2, e3, by omega, by omega, d, h1, by omega, h3, fun hf => ⟨?_, ?_⟩⟩
  · exact (h4 hf).1
  · have := (h4 hf).2; omega
theorem below_N (w : World) (n : Nat) : Below w.heap.size w (w.drewN n) := ⟨rfl, rfl, rfl, Nat.le_refl _, fun _ _ => rfl⟩
set_option maxHeartbeats 8000000 in
theorem kitem_any (SR : SRT) (w : World) (own : Ghost) (B0 bk bs : Nat) (t : List Int) (wid : Int) (m : Nat) (D : List Nd) (A : List (Int × List It)) (hg : KX SR B0 bk bs t wid m D A w own) (hm : m < 100000000) (x : It) (X : Array Value) (hX : IsIt X x) (hok : x.Ok) (hx : ItIs t D x) :
    Calls Try.prog 52 #[.pointer (some ⟨bk, 0, none⟩), .agg X] w fun e w' => e = .returned (.bool true) ∧ Below w.heap.size w w' := by
  obtain ⟨vt, vs, vl, C, PK, g⟩ := hg
  obtain ⟨gs, cs, rfl⟩ := g.src
  obtain ⟨lf, wn, vr, e1, e2, e3, hlf, hwn, d, hd, hvr, hsk, hfin⟩ := hx.nat
  obtain ⟨c, d', hc, hd', rep, nb⟩ := g.at lf hlf
  rw [hd] at hd'; cases hd'
  have h8 := g.T.le
  have hso : Own clSrc w B0 85 (.slice (some ⟨gs, 0, none⟩) t.length cs) C := g.so
  obtain ⟨N, hN⟩ : ∃ N, t.length = N := ⟨_, rfl⟩
  obtain ⟨⟨tp, tn, tc⟩, hvt⟩ : ∃ v0 : Sl, v0 = vt := ⟨_, rfl⟩
  have htr : t.length = tn := by have := g.tr; rw [← hvt] at this; exact (Own.sl (s := ⟨tp, tn, tc⟩) this).1
  have c1 : w.cell? ⟨bk, 1, none⟩ = some (.slice tp N tc) := by rw [cell_of_row _ _ _ _ _ _ g.run, ← hvt, ← hN, htr]; rfl
  have c3 : w.cell? ⟨bk, 3, none⟩ = some (.slice (some ⟨gs, 0, none⟩) N cs) := by rw [cell_of_row _ _ _ _ _ _ g.run, ← hN]; rfl
  obtain ⟨fb, hfb⟩ : ∃ fb, d.lcl wn = fb := ⟨_, rfl⟩
  have cq : w.cell? ⟨gs, lf * 82 + 40 + wn, none⟩ = some (.bool fb) := by
    rw [Nat.add_assoc, ← hfb, ← rep.cl wn hwn]
    exact hso.cell_at lf c hc (40 + wn) _ (by show c.cells[40 + wn]? = _; rw [c.get _ (by omega), c.at_cl wn hwn])
  obtain ⟨⟨ep, en, ec⟩, hsl⟩ : ∃ s, s = c.ev wn := ⟨_, rfl⟩
  have cev : w.cell? ⟨gs, lf * 82 + wn, none⟩ = some (.slice ep en ec) := hso.cell_at lf c hc wn _ (by show c.cells[wn]? = _; rw [c.get _ (by omega), c.at_ev wn hwn, ← hsl])
  have hev : ((evK d.lev wn).map evOf).length = en ∧ RowsAt clE w ep ((evK d.lev wn).map evOf) := by have := rep.ev wn hwn; rw [← hsl] at this; exact Own.sl (s := ⟨ep, en, ec⟩) this
  have hcap : en ≤ ec := by
    have := rep.ev wn hwn; rw [← hsl] at this
    obtain ⟨p', c', e, hle, _⟩ := this.form
    simp only [Sl.val] at e
    injection e with e1 e2 e3
    omega
  have hen : (evK d.lev wn).length = en := by simpa using hev.1
  have hlen : en ≤ m := by rw [← hen]; exact Nat.le_trans (evK_len _ _) (g.di lf d hd).1
  have hve : vr ≤ en := by omega
  have HEV : Hid (RowsAt clE w ep (((evK d.lev wn).map evOf).take vr)) := hev.2.take vr
  have HOK : Hid (AllOk (((evK d.lev wn).map evOf).take vr)) := (evK_allok nb.lev wn).take vr
  have HL : Hid ((((evK d.lev wn).map evOf).take vr).length = vr) := by unfold Hid; simp; omega
  have HSK : Hid (F (((evK d.lev wn).map evOf).take vr) = x.sk) := by unfold Hid; rw [hsk, skOf_F, List.map_take]
  have hfin2 : x.fin = true → fb = true ∧ vr = en := fun h => by have := hfin h; exact ⟨by rw [← hfb]; exact this.1, by omega⟩
  have hgsw : gs < w.heap.size := (hso.lt gs rfl).2
  have hbk := lt_of_blk g.run
  have hskok := hok.sk
  have m0 : X[0]? = some (.int .i64 lf) := by rw [hX.get0, e1]
  have m1 : X[1]? = some (.int .i64 wn) := by rw [hX.get1, e2]
  have m2 : X[2]? = some (.int .i64 vr) := by rw [hX.get2, e3]
  obtain ⟨ff, hff⟩ : ∃ ff, x.fin = ff := ⟨_, rfl⟩
  have m3 : X[3]? = some (.bool ff) := by rw [hX.get3, hff]
  rw [hff] at hfin2
  have HX : Hid (IsIt X x) := hX
  have hNl : lf < N := by omega
  clear g rep nb hd hc hso hsl hev hsk hfin hfb hff hX hvt htr e1 e2 e3 hx
  have d1 : decide ((lf : Int) < 0) = false := by simp
  have d2 : decide ((N : Int) ≤ (lf : Int)) = false := by simp; omega
  have d3 : decide ((wn : Int) < 0) = false := by simp
  have d4 : decide ((20 : Int) ≤ (wn : Int)) = false := by simp; omega
  have d5 : decide ((vr : Int) < 0) = false := by simp
  have d6 : decide ((en : Int) < (vr : Int)) = false := by simp; omega
  go_enter Try.func52, Try.ntmps52
  go_upto_region 1 with fail
  obtain ⟨w1, hw1⟩ : ∃ w1, w1 = w.alloc (.cells X 78) := ⟨_, rfl⟩
  have hb1 : Below w.heap.size w w1 := by rw [hw1]; exact below_alloc _ _
  have G1 : w1.heap[w.heap.size]? = some (.cells X 78) := by rw [hw1]; exact heap_alloc_new _ _
  rw [← hw1]
  have x0 : w1.cell? ⟨w.heap.size, 0, none⟩ = some (.int .i64 lf) := by rw [cell_of_row _ _ _ _ _ _ G1]; exact m0
  have x1 : w1.cell? ⟨w.heap.size, 1, none⟩ = some (.int .i64 wn) := by rw [cell_of_row _ _ _ _ _ _ G1]; exact m1
  have x2 : w1.cell? ⟨w.heap.size, 2, none⟩ = some (.int .i64 vr) := by rw [cell_of_row _ _ _ _ _ _ G1]; exact m2
  have x3 : w1.cell? ⟨w.heap.size, 3, none⟩ = some (.bool ff) := by rw [cell_of_row _ _ _ _ _ _ G1]; exact m3
  replace c1 := cell_keep hb1 c1
  replace c3 := cell_keep hb1 c3
  replace cq := cell_keep hb1 cq
  replace cev := cell_keep hb1 cev
  have HG1 : Hid (w1.heap[w.heap.size]? = some (.cells X 78)) := G1
  have HB1 : Hid (Below w.heap.size w w1) := hb1
  clear G1 hb1 hw1 m0 m1 m2 m3
  go_quiet (fail)
  go_upto_region 3 with fail
  go_quiet (fail)
  go_upto_region 7 with (first | (go_at_call 23; refine (kfold_any _ _ vr _ _ HL.out (kevs_rows ((HEV.out.below HB1.out).below (below_N _ _)) HOK.out) (by simp only [maxLen]; omega)).mono ?_; rintro e w2 ⟨M, rfl, hM, hb2⟩; rw [HSK.out] at hM; have HM : Hid (IsSk M x.sk) := hM; have HB2 : Hid (Below w1.heap.size w1 w2) := ⟨hb2.os, hb2.tape, hb2.output, hb2.size, hb2.block⟩; clear hb2) | (refine alloc_sk rfl rfl ?_; intro Z hZ) | (refine store_sk_new rfl _ _ rfl M _ _ rfl rfl (by rfl) hM hZ ?_))
  rename World => w2
  obtain ⟨w3, hw3⟩ : ∃ w3, w3 = w2.alloc (.cells M 27) := ⟨_, rfl⟩
  have hb3 : Below w1.heap.size w1 w3 := by rw [hw3]; exact bnext HB2.out (below_alloc _ _)
  have G3 : w3.heap[w2.heap.size]? = some (.cells M 27) := by rw [hw3]; exact heap_alloc_new _ _
  rw [← hw3]
  replace x0 := cell_keep hb3 x0
  replace x1 := cell_keep hb3 x1
  replace x2 := cell_keep hb3 x2
  replace x3 := cell_keep hb3 x3
  replace c3 := cell_keep hb3 c3
  replace cq := cell_keep hb3 cq
  have HG3 : Hid (w3.heap[w2.heap.size]? = some (.cells M 27)) := G3
  have HX3 : Hid (w3.rangeAt w.heap.size 4 x.sk.cells.toList) := HX.out.range4 (keep hb3 HG1.out)
  have HB3 : Hid (Below w.heap.size w w3) := bnext HB1.out hb3
  clear G3 hb3 hw3 hM
  clear c1 cev
  try dsimp only
  try simp only [Act.put, List.getElem_toArray, List.getElem_cons_succ, List.getElem_cons_zero, List.setIfInBounds_toArray, List.set_cons_zero, List.set_cons_succ]
  cases ff with
  | false =>
    clear cq c3
    go_quiet (fail)
    go_wp2_with (first | (refine load_sk rfl _ rfl _ rfl M _ HM.out (by exact HG3.out) ?_) | (refine load_sk_mid rfl _ rfl _ 4 rfl x.sk (by exact HX3.out) ?_; intro S hS; have hSM : S = M := hS.trans HM.out.symm; subst hSM) | (refine eql_sk_g (by rfl) _ _ _ rfl _ _ HM.out hskok rfl rfl ?_))
    go_ret
    exact ⟨rfl, bnext HB3.out (below_N _ _)⟩
  | true =>
    obtain ⟨rfl, rfl⟩ := hfin2 rfl
    have d7 : ((vr : Int) == (vr : Int)) = true := by simp
    go_quiet (fail)
    go_wp2_with (first | (refine load_sk rfl _ rfl _ rfl M _ HM.out (by exact HG3.out) ?_) | (refine load_sk_mid rfl _ rfl _ 4 rfl x.sk (by exact HX3.out) ?_; intro S hS; have hSM : S = M := hS.trans HM.out.symm; subst hSM) | (refine eql_sk_g (by rfl) _ _ _ rfl _ _ HM.out hskok rfl rfl ?_))
    go_ret
    exact ⟨rfl, bnext HB3.out (below_N _ _)⟩
end Go.Proofs.Ytpglbakcjihohaa

/-! A leaf has an item of just the windows in which it has taken something in, or which are closed. -/
namespace Go.Proofs.Ytpglbakcjihohaa
open Go.RowKit
set_option maxRecDepth 100000

theorem knownTo_le (n : Int) (l : List Ev3) (cl : Nat → Bool) (j : Nat) : (knownTo n l cl j).length ≤ j := by
  have := List.length_filter_le (has l cl) (List.range j)
  simpa [knownTo] using this
theorem known_pre (n : Int) (l : List Ev3) (cl : Nat → Bool) (j : Nat) (hj : j ≤ 20) : ∃ r, known n l cl = knownTo n l cl j ++ r := by
  have e : ∀ k, ∃ r, knownTo n l cl (j + k) = knownTo n l cl j ++ r := fun k => by
    induction k with
    | zero => exact ⟨[], by simp⟩
    | succ k ih =>
      obtain ⟨r, hr⟩ := ih
      cases h : has l cl (j + k) with
      | false => exact ⟨r, by rw [← Nat.add_assoc, knownTo_no _ _ _ _ h, hr]⟩
      | true => exact ⟨r ++ [itOf n l cl (j + k)], by rw [← Nat.add_assoc, knownTo_yes _ _ _ _ h, hr, List.append_assoc]⟩
  have := e (20 - j)
  rw [show j + (20 - j) = 20 by omega] at this
  exact this
theorem known_at (n : Int) (l : List Ev3) (cl : Nat → Bool) (j : Nat) (hj : j < 20) (h : has l cl j = true) : (known n l cl)[(knownTo n l cl j).length]? = some (itOf n l cl j) ∧ (knownTo n l cl (j + 1)).length = (knownTo n l cl j).length + 1 := by
  obtain ⟨r, hr⟩ := known_pre n l cl (j + 1) (by omega)
  refine ⟨?_, by rw [knownTo_yes _ _ _ _ h]; simp⟩
  rw [hr, knownTo_yes _ _ _ _ h, List.append_assoc, List.getElem?_append_right (Nat.le_refl _)]
  simp
set_option maxHeartbeats 8000000 in
theorem kowns_any (SR : SRT) (R : PR SR) (w : World) (own : Ghost) (B0 bk bs : Nat) (t : List Int) (wid : Int) (m : Nat) (D : List Nd) (A : List (Int × List It)) (hg : KX SR B0 bk bs t wid m D A w own) (hm : m < 100000000) (k : Nat) (hk : k < t.length) (hlf : isLf t k = true) (p : Option Addr) (ln lc : Nat) (hln : (lvAt t D k).length = ln) (hr : RowsAt clIt w p (lvAt t D k)) :
    Calls Try.prog 54 #[.pointer (some ⟨bk, 0, none⟩), .int .i64 k, .slice p ln lc] w fun e w' => e = .returned (.bool true) ∧ Below w.heap.size w w' := by
  obtain ⟨vt, vs, vl, C, PK, g⟩ := hg
  obtain ⟨gs, cs, rfl⟩ := g.src
  obtain ⟨c, d, hc, hd, rep, nb⟩ := g.at k hk
  have h8 := g.T.le
  have hso : Own clSrc w B0 85 (.slice (some ⟨gs, 0, none⟩) t.length cs) C := g.so
  obtain ⟨N, hN⟩ : ∃ N, t.length = N := ⟨_, rfl⟩
  have hnd : isNd t k = true := by simp [isNd]; omega
  have hlv : lvAt t D k = known k d.lev d.lcl := by unfold lvAt; rw [if_pos hnd]; simp only [Int.toNat_natCast, hd, Option.map_some, Option.getD_some]; unfold lvg; rw [if_pos hlf]
  have hwm : wmAt t D k = d.lmk := by unfold wmAt wrg; rw [if_pos hnd, if_pos hlf]; simp [hd]
  rw [hlv] at hln hr
  have HWM : Hid (wmAt t D k = d.lmk) := hwm
  have HG : Hid (KD SR w own B0 bk bs t wid m D vt ⟨some ⟨gs, 0, none⟩, t.length, cs⟩ vl C PK A) := g
  have HR : Hid (PR SR) := R
  have HRW : Hid (RowsAt clIt w p (known k d.lev d.lcl)) := hr
  have HLN : Hid ((known k d.lev d.lcl).length = ln) := hln
  have HSRC : Hid (C[k]? = some c ∧ SrcRep w own B0 k c d ∧ Own clSrc w B0 85 (.slice (some ⟨gs, 0, none⟩) t.length cs) C) := ⟨hc, rep, hso⟩
  have C0 : Hid (w.cell? ⟨bk, 0, none⟩ = some (.pointer (some ⟨bs, 0, none⟩))) := by unfold Hid; rw [cell_of_row _ _ _ _ _ _ g.run]; rfl
  have C3 : Hid (w.cell? ⟨bk, 3, none⟩ = some (.slice (some ⟨gs, 0, none⟩) N cs)) := by unfold Hid; rw [cell_of_row _ _ _ _ _ _ g.run, ← hN]; rfl
  have CM : Hid (w.cell? ⟨gs, k * 82 + 80, none⟩ = some (.int .i64 d.lmk)) := by
    unfold Hid; rw [← rep.mark]
    exact hso.cell_at k c hc 80 _ (by show c.cells[80]? = _; rw [c.get _ (by omega), c.at_mark])
  have hln20 : ln ≤ 20 := by rw [← hln]; exact knownTo_le _ _ _ _
  have k0 : (0 : Int) ≤ (k : Int) := by omega
  have k1 : (k : Int) < (N : Int) := by omega
  have HLV : Hid (d.lev.length ≤ m) := (g.di k d hd).1
  clear g R hr hln hc hd rep nb hso hlv hwm
  go_enter Try.func54, Try.ntmps54
  go_wp2
  go_loopw [7, 8] (fun q i wr => ∃ j : Nat, j ≤ 20 ∧ i = .int .i64 j ∧ q = .int .i64 (knownTo k d.lev d.lcl j).length ∧ Below w.heap.size w wr) (fun _ i _ => 20 - (intOf i).toNat)
  case atStart => exact ⟨0, by omega, rfl, rfl, Below.refl _ _⟩
  case round =>
    obtain ⟨j, hj, rfl, rfl, hb⟩ := hrel
    have c0 := cell_keep hb C0.out
    have c3 := cell_keep hb C3.out
    have cm := cell_keep hb CM.out
    have HB : Hid (Below w.heap.size w wr) := hb
    by_cases hlj : j < 20
    · obtain ⟨fb, hfb⟩ : ∃ fb, d.lcl j = fb := ⟨_, rfl⟩
      have cq : wr.cell? ⟨gs, k * 82 + 40 + j, none⟩ = some (.bool fb) := by
        refine cell_keep hb ?_
        rw [Nat.add_assoc, ← hfb, ← HSRC.out.2.1.cl j hlj]
        exact HSRC.out.2.2.cell_at k c HSRC.out.1 (40 + j) _ (by show c.cells[40 + j]? = _; rw [c.get _ (by omega), c.at_cl j hlj])
      obtain ⟨⟨ep, en, ec⟩, hsl⟩ : ∃ s, s = c.ev j := ⟨_, rfl⟩
      have cev : wr.cell? ⟨gs, k * 82 + j, none⟩ = some (.slice ep en ec) := cell_keep hb (HSRC.out.2.2.cell_at k c HSRC.out.1 j _ (by show c.cells[j]? = _; rw [c.get _ (by omega), c.at_ev j hlj, ← hsl]))
      have hen : (evK d.lev j).length = en := by have h1 := HSRC.out.2.1.ev j hlj; rw [← hsl] at h1; have := (Own.sl (s := ⟨ep, en, ec⟩) h1).1; simpa using this
      have hem : en ≤ m := by rw [← hen]; exact Nat.le_trans (evK_len _ _) HLV.out
      have j0 : (0 : Int) ≤ (j : Int) := by omega
      have j1 : (j : Int) < 20 := by omega
      cases hh : has d.lev d.lcl j with
      | false =>
        have h2 : en = 0 ∧ fb = false := by
          unfold has at hh
          simp only [Bool.or_eq_false_iff, decide_eq_false_iff_not] at hh
          exact ⟨by omega, by rw [← hfb]; exact hh.2⟩
        obtain ⟨rfl, rfl⟩ := h2
        have HX : Hid (knownTo k d.lev d.lcl (j + 1) = knownTo k d.lev d.lcl j) := knownTo_no _ _ _ _ hh
        clear hh hfb hen hsl hb cm c0
        go_wp2
        go_roundw
        case rel => exact ⟨j + 1, by omega, by go_num, by rw [HX.out], HB.out⟩
        case measure => simp [intOf]; omega
      | true =>
        obtain ⟨hat, hnx⟩ := known_at (k : Int) d.lev d.lcl j hlj hh
        obtain ⟨q, hq⟩ : ∃ q, (knownTo k d.lev d.lcl j).length = q := ⟨_, rfl⟩
        rw [hq] at hat hnx ⊢
        have hql : q < ln := by have := (List.getElem?_eq_some_iff.1 hat).1; have := HLN.out; omega
        obtain ⟨gp, op, rfl, hgp, hrg⟩ := HRW.out.pos q (by have := HLN.out; omega)
        have rg : wr.rangeAt gp (op + q * 32) (itOf k d.lev d.lcl j).cells := range_below hb hgp (hrg q _ hat)
        have y0 : wr.cell? ⟨gp, op + q * 32, none⟩ = some (.int .i64 k) := rg 0 _ rfl
        have y1 : wr.cell? ⟨gp, op + q * 32 + 1, none⟩ = some (.int .i64 j) := rg 1 _ rfl
        have y2 : wr.cell? ⟨gp, op + q * 32 + 2, none⟩ = some (.int .i64 en) := by rw [rg 2 _ rfl, ← hen]; rfl
        have y3 : wr.cell? ⟨gp, op + q * 32 + 3, none⟩ = some (.bool fb) := by rw [rg 3 _ rfl, ← hfb]; rfl
        have HX : Hid ((knownTo k d.lev d.lcl (j + 1)).length = q + 1) := hnx
        have q0 : (0 : Int) ≤ (q : Int) := by omega
        have q1 : (q : Int) < (ln : Int) := by omega
        have d1 : decide ((ln : Int) ≤ (q : Int)) = false := by simp; omega
        have hgo : en = 0 → fb = true := fun e => by
          unfold has at hh
          rw [hfb] at hh
          cases fb with
          | true => rfl
          | false => simp at hh; omega
        clear hh hfb hen hsl hb cm c0 hat hnx hrg rg hq
        by_cases hz : en = 0
        · subst hz
          obtain rfl := hgo rfl
          clear hgo
          go_upto_region 7 with fail
          go_quiet (fail)
          go_wp2
          go_roundw
          case rel => exact ⟨j + 1, by omega, by go_num, by rw [HX.out]; go_num, bnext HB.out (below_N _ _)⟩
          case measure => simp [intOf]; omega
        · have hz' : ((en : Int) == 0) = false := by simp; omega
          clear hgo
          cases fb with
          | true =>
            go_upto_region 7 with fail
            go_quiet (fail)
            go_wp2
            go_roundw
            case rel => exact ⟨j + 1, by omega, by go_num, by rw [HX.out]; go_num, bnext HB.out (below_N _ _)⟩
            case measure => simp [intOf]; omega
          | false =>
            go_upto_region 7 with fail
            go_quiet (fail)
            go_wp2
            go_roundw
            case rel => exact ⟨j + 1, by omega, by go_num, by rw [HX.out]; go_num, bnext HB.out (below_N _ _)⟩
            case measure => simp [intOf]; omega
    · obtain rfl : j = 20 := by omega
      have hql : (knownTo k d.lev d.lcl 20).length = ln := HLN.out
      rw [hql]
      clear hb
      go_wp2_with (go_at_call 73; refine (HR.out.mark wr own B0 bs t wid D (HR.out.below' HG.out.st HB.out) (HG.out.di.mono' (by omega)) k ⟨by omega, by omega⟩).mono ?_; rintro e w2 ⟨rfl, hb2⟩; rw [HWM.out]; replace c3 := cell_keep hb2 c3; replace cm := cell_keep hb2 cm; have HB2 : Hid (Below w.heap.size w w2) := bnext HB.out hb2; clear hb2)
      go_ret
      exact ⟨rfl, HB2.out⟩
end Go.Proofs.Ytpglbakcjihohaa

/-! The sketch of all events of all leaves in some windows. -/
namespace Go.Proofs.Ytpglbakcjihohaa
open Go.RowKit
set_option maxRecDepth 100000

/-- One leaf's windows, from lo on, so many, merged into s. -/
def totRow (d : Nd) (lo : Nat) (s : Sk) (n : Nat) : Sk := (List.range n).foldl (fun s i => mrg s (skOf (evK d.lev ((lo + i : Nat) : Int)))) s
/-- Those of the first nodes. -/
def totTo (D : List Nd) (lo n j : Nat) : Sk := (D.take j).foldl (fun s d => totRow d lo s n) Sk.empty
theorem totRow_succ (d : Nd) (lo : Nat) (s : Sk) (n : Nat) : totRow d lo s (n + 1) = mrg (totRow d lo s n) (skOf (evK d.lev ((lo + n : Nat) : Int))) := by
  unfold totRow; rw [List.range_succ, List.foldl_append]; rfl
theorem totTo_succ (D : List Nd) (lo n j : Nat) (d : Nd) (h : D[j]? = some d) : totTo D lo n (j + 1) = totRow d lo (totTo D lo n j) n := by
  unfold totTo; rw [List.take_add_one, h, List.foldl_append]; rfl
theorem skOf_okE {l : List Ev3} (h : EvOk l) (k : Int) : (skOf (evK l k)).Ok := by rw [skOf_F]; exact F_ok _ (evK_allok h k)
theorem totRow_ok {d : Nd} (h : EvOk d.lev) (lo : Nat) {s : Sk} (hs : s.Ok) : ∀ n, (totRow d lo s n).Ok
  | 0 => hs
  | n + 1 => by rw [totRow_succ]; exact mrg_ok (totRow_ok h lo hs n) (skOf_okE h _)
theorem totTo_ok {D : List Nd} (h : ∀ (k : Nat) (d : Nd), D[k]? = some d → EvOk d.lev) (lo n : Nat) : ∀ j, j ≤ D.length → (totTo D lo n j).Ok
  | 0, _ => Sk.empty_ok
  | j + 1, hj => by
    have hd : D[j]? = some (D[j]'(by omega)) := List.getElem?_eq_getElem _
    rw [totTo_succ D lo n j _ hd]
    exact totRow_ok (h j _ hd) lo (totTo_ok h lo n j (by omega)) n
set_option maxHeartbeats 8000000 in
theorem ktotal_any (SR : SRT) (R : PR SR) (w : World) (own : Ghost) (B0 bk bs : Nat) (t : List Int) (wid : Int) (m : Nat) (D : List Nd) (A : List (Int × List It)) (hg : KX SR B0 bk bs t wid m D A w own) (hm : m < 100000000) (lo n : Nat) (hl : lo + n ≤ 20) (hi : Int) (hhi : hi = (lo : Int) + n - 1) :
    Calls Try.prog 33 #[.pointer (some ⟨bk, 0, none⟩), .int .i64 lo, .int .i64 hi] w fun e w' => ∃ M, e = .returned (.agg M) ∧ IsSk M (totTo D lo n t.length) ∧ Below w.heap.size w w' := by
  obtain ⟨vt, vs, vl, C, PK, g⟩ := hg
  obtain ⟨gs, cs, rfl⟩ := g.src
  have h8 := g.T.le
  obtain ⟨N, hN⟩ : ∃ N, t.length = N := ⟨_, rfl⟩
  have HN : Hid (t.length = N) := hN
  obtain ⟨⟨tp, tn, tc⟩, hvt⟩ : ∃ v0 : Sl, v0 = vt := ⟨_, rfl⟩
  have htr : t.length = tn := by have := g.tr; rw [← hvt] at this; exact (Own.sl (s := ⟨tp, tn, tc⟩) this).1
  have C1 : Hid (w.cell? ⟨bk, 1, none⟩ = some (.slice tp N tc)) := by unfold Hid; rw [cell_of_row _ _ _ _ _ _ g.run, ← hvt, ← hN, htr]; rfl
  have C3 : Hid (w.cell? ⟨bk, 3, none⟩ = some (.slice (some ⟨gs, 0, none⟩) N cs)) := by unfold Hid; rw [cell_of_row _ _ _ _ _ _ g.run, ← hN]; rfl
  have HG : Hid (KD SR w own B0 bk bs t wid m D vt ⟨some ⟨gs, 0, none⟩, t.length, cs⟩ vl C PK A) := g
  have hld := g.inv.ld
  have HOKD : Hid (∀ (k : Nat) (d : Nd), D[k]? = some d → EvOk d.lev) := fun k d hd => (g.nb k d hd).lev
  rw [hN]
  clear g htr hvt
  go_enter Try.func33, Try.ntmps33
  go_wp2_with (first | (refine alloc_sk rfl rfl ?_; intro Z hZ) | (go_at_call 11; refine (tempty_any _).mono ?_; rintro e w1 ⟨E, rfl, hE, hb⟩; have gZ := keep hb (heap_alloc_new w _); have HZ := hZ.size; have HB := bnext (below_alloc _ _) hb; clear hb; obtain ⟨Y, hY⟩ : ∃ Y, Y = Z := ⟨_, rfl⟩; rw [← hY] at gZ HZ; clear hY hZ) | (refine store_sk_new rfl _ _ rfl E _ _ rfl rfl (by rfl) hE hZ ?_))
  have hlt1 := lt_of_blk gZ
  go_loopw [8] (fun i wr => ∃ (k : Nat) (M : Array Value), k ≤ N ∧ i = .int .i64 k ∧ IsSk M (totTo D lo n k) ∧ Below w.heap.size w wr ∧ wr.heap[w.heap.size]? = some (.cells Y 27) ∧ wr.heap[w1.heap.size]? = some (.cells M 27)) (fun i _ => N - (intOf i).toNat)
  case atStart => exact ⟨0, E, by omega, rfl, hE, bnext HB (below_alloc _ _), blk_old gZ, heap_alloc_new _ _⟩
  case round =>
    clear hE gZ
    obtain ⟨k, M, hk, rfl, hM, hB, gY, gM⟩ := hrel
    have HM : Hid (IsSk M (totTo D lo n k)) := hM
    have HBr : Hid (Below w.heap.size w wr) := hB
    have c1 := cell_keep hB C1.out
    have HGY : Hid (wr.heap[w.heap.size]? = some (.cells Y 27)) := gY
    have HGM : Hid (wr.heap[w1.heap.size]? = some (.cells M 27)) := gM
    clear hM hB gY gM
    by_cases hlk : k < N
    · obtain ⟨c, d, hc, hd, rep, nb⟩ := HG.out.at k (by omega)
      have HS : Hid (totTo D lo n (k + 1) = totRow d lo (totTo D lo n k) n) := totTo_succ D lo n k d hd
      have HOK0 : Hid (totTo D lo n k).Ok := totTo_ok HOKD.out lo n k (by omega)
      have HCD : Hid (C[k]? = some c ∧ D[k]? = some d ∧ SrcRep w own B0 k c d ∧ NdB wid d) := ⟨hc, hd, rep, nb⟩
      have hlev : d.lev.length ≤ m := (HG.out.di k d hd).1
      clear hc hd rep nb
      go_wp2
      go_loopw [9] (fun i wr => ∃ (v : Nat) (M' : Array Value), v ≤ n ∧ i = .int .i64 ((lo + v : Nat) : Int) ∧ IsSk M' (totRow d lo (totTo D lo n k) v) ∧ Below w.heap.size w wr ∧ wr.heap[w.heap.size]? = some (.cells Y 27) ∧ wr.heap[w1.heap.size]? = some (.cells M' 27)) (fun i _ => lo + n - (intOf i).toNat)
      case atStart => exact ⟨0, M, by omega, by simp, HM.out, HBr.out, HGY.out, HGM.out⟩
      case round =>
        obtain ⟨v, M', hv, rfl, hM', hB', gY', gM'⟩ := hrel
        have okM := totRow_ok (HOKD.out k d HCD.out.2.1) lo HOK0.out v
        have c1' := cell_keep hB' C1.out
        have c3' := cell_keep hB' C3.out
        by_cases hlv : v < n
        · have hw20 : lo + v < 20 := by omega
          obtain ⟨⟨ep, en, ec⟩, hsl⟩ : ∃ s, s = c.ev (lo + v) := ⟨_, rfl⟩
          have hso : Own clSrc w B0 85 (.slice (some ⟨gs, 0, none⟩) t.length cs) C := HG.out.so
          have cev : w.cell? ⟨gs, k * 82 + (lo + v), none⟩ = some (.slice ep en ec) := hso.cell_at k c HCD.out.1 (lo + v) _ (by show c.cells[lo + v]? = _; rw [c.get _ (by omega), c.at_ev _ hw20, ← hsl])
          replace cev := cell_keep hB' cev
          have hev : ((evK d.lev ((lo + v : Nat) : Int)).map evOf).length = en ∧ RowsAt clE w ep ((evK d.lev ((lo + v : Nat) : Int)).map evOf) := by have := HCD.out.2.2.1.ev (lo + v) hw20; rw [← hsl] at this; exact Own.sl (s := ⟨ep, en, ec⟩) this
          have HEV : Hid (RowsAt clE wr ep ((evK d.lev ((lo + v : Nat) : Int)).map evOf)) := hev.2.below hB'
          have HL : Hid (((evK d.lev ((lo + v : Nat) : Int)).map evOf).length = en) := hev.1
          have hlen : en ≤ m := by rw [← hev.1, List.length_map]; exact Nat.le_trans (evK_len _ _) hlev
          have HOKE : Hid (AllOk ((evK d.lev ((lo + v : Nat) : Int)).map evOf)) := evK_allok HCD.out.2.2.2.lev _
          have HSK : Hid (F ((evK d.lev ((lo + v : Nat) : Int)).map evOf) = skOf (evK d.lev ((lo + v : Nat) : Int))) := (skOf_F _).symm
          have HR : Hid (totRow d lo (totTo D lo n k) (v + 1) = mrg (totRow d lo (totTo D lo n k) v) (skOf (evK d.lev ((lo + v : Nat) : Int)))) := totRow_succ _ _ _ _
          have HGY' : Hid (wr.heap[w.heap.size]? = some (.cells Y 27)) := gY'
          have HGM' : Hid (wr.heap[w1.heap.size]? = some (.cells M' 27)) := gM'
          have HB' : Hid (Below w.heap.size w wr) := hB'
          have HM' : Hid (IsSk M' (totRow d lo (totTo D lo n k) v)) := hM'
          have k0 : (0 : Int) ≤ (k : Int) := by omega
          have k1 : (k : Int) < (N : Int) := by omega
          have q0 : (0 : Int) ≤ ((lo + v : Nat) : Int) := by omega
          have q1 : ((lo + v : Nat) : Int) < 20 := by omega
          have hcmp : ((lo + v : Nat) : Int) ≤ hi := by omega
          have HOKE2 : Hid (skOf (evK d.lev ((lo + v : Nat) : Int))).Ok := skOf_okE HCD.out.2.2.2.lev _
          have HOKM : Hid (totRow d lo (totTo D lo n k) v).Ok := okM
          clear hsl hso hev gY' gM' hB' hM' okM
          go_wp2_with (first | (go_at_call 23; refine (kfold_any _ _ en _ _ HL.out (kevs_rows HEV.out HOKE.out) (by simp only [maxLen]; omega)).mono ?_; rintro e w2 ⟨R, rfl, hR, hb2⟩; rw [HSK.out] at hR; have HR2 : Hid (IsSk R (skOf (evK d.lev ((lo + v : Nat) : Int)))) := hR; have HB2 : Hid (Below w.heap.size w w2) := bnext HB'.out hb2; have GY2 : Hid (w2.heap[w.heap.size]? = some (.cells Y 27)) := keep hb2 HGY'.out; have GM2 : Hid (w2.heap[w1.heap.size]? = some (.cells M' 27)) := keep hb2 HGM'.out; clear hR hb2) | (refine alloc_sk rfl rfl ?_; intro Z2 hZ2) | (refine store_sk_new rfl _ _ rfl R _ _ rfl rfl (by rfl) HR2.out hZ2 ?_) | (refine load_sk rfl _ rfl _ rfl M' _ HM'.out (by exact blk_old GM2.out) ?_) | (refine load_sk rfl _ rfl _ rfl R _ HR2.out (by exact heap_alloc_new _ _) ?_) | (go_at_call 13; refine (tmerge_any _ _ M' R HM'.out HR2.out HOKM.out HOKE2.out _).mono ?_; rintro e w4 ⟨RR, rfl, hRR, hb4⟩; have HRR : Hid (IsSk RR (totRow d lo (totTo D lo n k) (v + 1))) := (by unfold Hid; rw [HR.out]; exact hRR); have HB4 : Hid (Below w.heap.size w w4) := bnext (bnext HB2.out (below_alloc _ _)) hb4; have GY4 : Hid (w4.heap[w.heap.size]? = some (.cells Y 27)) := keep hb4 (blk_old GY2.out); have GM4 : Hid (w4.heap[w1.heap.size]? = some (.cells M' 27)) := keep hb4 (blk_old GM2.out); clear hRR hb4) | (refine store_sk rfl _ _ rfl RR _ rfl rfl HRR.out (by exact GM4.out) HM'.out.size ?_))
          go_roundw
          case rel => exact ⟨v + 1, RR, by omega, by go_num, HRR.out, below_setRow _ HB4.out (Nat.le_of_lt hlt1), setRow_oth (by omega) GY4.out, setRow_blk GM4.out⟩
          case measure => simp [intOf]; omega
        · obtain rfl : v = n := by omega
          have hcmp : ¬ ((lo + v : Nat) : Int) ≤ hi := by omega
          have HM' : Hid (IsSk M' (totTo D lo v (k + 1))) := by unfold Hid; rw [HS.out]; exact hM'
          have HGY' : Hid (wr.heap[w.heap.size]? = some (.cells Y 27)) := gY'
          have HGM' : Hid (wr.heap[w1.heap.size]? = some (.cells M' 27)) := gM'
          have HB' : Hid (Below w.heap.size w wr) := hB'
          clear hM' gY' gM' hB'
          go_wp2
          go_roundw
          case rel => exact ⟨k + 1, M', by omega, by go_num, HM'.out, HB'.out, HGY'.out, HGM'.out⟩
          case measure => simp [intOf]; omega
    · obtain rfl : k = N := by omega
      go_wp2_with (first | (refine load_sk rfl _ rfl _ rfl M _ HM.out (by exact HGM.out) ?_) | (refine store_sk rfl _ _ rfl M _ rfl rfl HM.out (by exact HGY.out) HZ ?_))
      exact bodyPost_ret (results_sk rfl _ _ _ M _ HM.out rfl (setRow_blk HGY.out)) rfl ⟨M, rfl, HM.out, below_setRow _ HBr.out (Nat.le_refl _)⟩
end Go.Proofs.Ytpglbakcjihohaa

/-! What the root calls sealed is the sketch of all events of those windows; once the root has every leaf's last item it calls them sealed (no program is named here). -/
namespace Go.Proofs.Ytpglbakcjihohaa
open Go.RowKit
set_option maxRecDepth 100000

/-! ### Rising lists -/
theorem inc_sub : ∀ (l2 l1 : List Int), l1.Pairwise (· < ·) → l2.Pairwise (· < ·) → (∀ x ∈ l1, x ∈ l2) → l1.Sublist l2
  | [], l1, _, _, h => by
    cases l1 with
    | nil => exact List.Sublist.slnil
    | cons a l1 => have := h a (by simp); simp at this
  | b :: l2, [], _, _, _ => List.nil_sublist _
  | b :: l2, a :: l1, h1, h2, h => by
    rw [List.pairwise_cons] at h1 h2
    by_cases e : a = b
    · subst e
      refine List.Sublist.cons_cons a (inc_sub l2 l1 h1.2 h2.2 fun x hx => ?_)
      have hlt := h1.1 x hx
      rcases List.mem_cons.1 (h x (by simp [hx])) with r | r
      · omega
      · exact r
    · have ha : a ∈ l2 := by
        rcases List.mem_cons.1 (h a (by simp)) with r | r
        · exact absurd r e
        · exact r
      have hba := h2.1 a ha
      refine List.Sublist.cons b (inc_sub l2 (a :: l1) (List.pairwise_cons.2 h1) h2.2 fun x hx => ?_)
      have hbx : b < x := by
        rcases List.mem_cons.1 hx with rfl | hx
        · exact hba
        · have := h1.1 x hx; omega
      rcases List.mem_cons.1 (h x hx) with r | r
      · omega
      · exact r
theorem inc_eq {l1 l2 : List Int} (h1 : l1.Pairwise (· < ·)) (h2 : l2.Pairwise (· < ·)) (h : ∀ x ∈ l1, x ∈ l2) (hl : l2.length ≤ l1.length) : l1 = l2 :=
  (inc_sub l2 l1 h1 h2 h).eq_of_length_le hl
/-! ### Leaves and windows as numbers -/
def kyO (x : It) : Int := x.leaf * 20 + x.win
def fkTo (t : List Int) (lo n : Nat) : Nat → List Int
  | 0 => []
  | j + 1 => fkTo t lo n j ++ (if isLf t j = true then (List.range n).map fun i : Nat => ((j : Int) * 20 + lo + i) else [])
theorem fk_mem {t : List Int} {lo n : Nat} : ∀ {j : Nat} {q : Int}, q ∈ fkTo t lo n j ↔ ∃ k i : Nat, k < j ∧ isLf t k = true ∧ i < n ∧ q = (k : Int) * 20 + lo + i
  | 0, q => by simp [fkTo]
  | j + 1, q => by
    unfold fkTo
    rw [List.mem_append, fk_mem]
    constructor
    · rintro (⟨k, i, a, b, c, d⟩ | h)
      · exact ⟨k, i, by omega, b, c, d⟩
      · split at h
        · rename_i hl
          obtain ⟨i, hi, rfl⟩ := List.mem_map.1 h
          exact ⟨j, i, by omega, hl, by simpa using hi, rfl⟩
        · simp at h
    · rintro ⟨k, i, a, b, c, d⟩
      by_cases e : k = j
      · subst e
        right
        rw [if_pos b]
        exact List.mem_map.2 ⟨i, by simpa using c, d.symm⟩
      · exact .inl ⟨k, i, by omega, b, c, d⟩
theorem fk_inc (t : List Int) (lo n : Nat) (h : lo + n ≤ 20) : ∀ j, (fkTo t lo n j).Pairwise (· < ·)
  | 0 => List.Pairwise.nil
  | j + 1 => by
    unfold fkTo
    rw [List.pairwise_append]
    refine ⟨fk_inc t lo n h j, ?_, fun a ha b hb => ?_⟩
    · split
      · rw [List.pairwise_map]
        exact List.pairwise_lt_range.imp fun h => by omega
      · exact List.Pairwise.nil
    · obtain ⟨k, i, a1, _, a3, rfl⟩ := fk_mem.1 ha
      split at hb
      · obtain ⟨i', hi', rfl⟩ := List.mem_map.1 hb
        have : i' < n := by simpa using hi'
        omega
      · simp at hb
theorem under_root {t : List Int} (hT : Tree t) : ∀ (f i : Nat), i < f → i < t.length → under t i 0 = true
  | 0, _, h, _ => by omega
  | f + 1, i, h, hi => by
    rcases Nat.eq_zero_or_pos i with rfl | hp
    · exact under_self t _ (by omega)
    · have hl := hT.up i hp hi
      rw [under_step hT i 0 (by omega) (by omega) (by omega)]
      have e : t.getD ((i : Int)).toNat (-1) = t.getD i 0 := by simp [List.getD, List.getElem?_eq_getElem hi]
      rw [e]
      have := under_root hT f (t.getD i 0).toNat (by omega) (by omega)
      rw [show (((t.getD i 0).toNat : Nat) : Int) = t.getD i 0 by omega] at this
      exact this
theorem fk_len {t : List Int} (hT : Tree t) (lo n : Nat) : ∀ j, j ≤ t.length → (fkTo t lo n j).length = lvU t 0 j * n
  | 0, _ => by simp [fkTo, lvU]
  | j + 1, hj => by
    unfold fkTo
    rw [lvU_succ, List.length_append, fk_len hT lo n j (by omega), under_root hT (j + 1) j (by omega) (by omega)]
    cases isLf t j <;> simp [Nat.add_mul]
/-! ### The sketch of a leaf's window -/
def gkO (D : List Nd) (q : Int) : Sk := skOf (evK (((D[(q / 20).toNat]?).map fun d => d.lev).getD []) (q % 20))
theorem gk_at {D : List Nd} {k : Nat} {d : Nd} (h : D[k]? = some d) (v : Nat) (hv : v < 20) : gkO D ((k : Int) * 20 + v) = skOf (evK d.lev v) := by
  unfold gkO
  have e1 : ((k : Int) * 20 + v) / 20 = k := by omega
  have e2 : ((k : Int) * 20 + v) % 20 = v := by omega
  rw [e1, e2]
  simp [h]
theorem mrgEmptyR {s : Sk} (ok : s.Ok) : mrg s Sk.empty = s := by rw [mrgComm, mrgEmpty ok]
theorem totRow_fk {D : List Nd} {k : Nat} {d : Nd} (h : D[k]? = some d) (lo : Nat) (s : Sk) : ∀ n, lo + n ≤ 20 → totRow d lo s n = ((List.range n).map fun i : Nat => ((k : Int) * 20 + lo + i)).foldl (fun s q => mrg s (gkO D q)) s
  | 0, _ => rfl
  | n + 1, hn => by
    rw [totRow_succ, List.range_succ, List.map_append, List.foldl_append, ← totRow_fk h lo s n (by omega)]
    have := gk_at h (lo + n) (by omega)
    simp only [List.map_cons, List.map_nil, List.foldl_cons, List.foldl_nil]
    rw [show ((k : Int) * 20 + lo + n) = (k : Int) * 20 + ((lo + n : Nat) : Int) by omega, this]
theorem totRow_nil {d : Nd} (h : d.lev = []) (lo : Nat) {s : Sk} (hs : s.Ok) : ∀ n, totRow d lo s n = s
  | 0 => rfl
  | n + 1 => by rw [totRow_succ, totRow_nil h lo hs n, h]; exact mrgEmptyR hs
theorem tot_fk {t : List Int} {D : List Nd} {A : List (Int × List It)} (hi : Inv t D A) (hev : ∀ (k : Nat) (d : Nd), D[k]? = some d → EvOk d.lev) (lo n : Nat) (hn : lo + n ≤ 20) : ∀ j, j ≤ t.length → totTo D lo n j = (fkTo t lo n j).foldl (fun s q => mrg s (gkO D q)) Sk.empty
  | 0, _ => rfl
  | j + 1, hj => by
    have hld := hi.ld
    have hd : D[j]? = some (D[j]'(by omega)) := List.getElem?_eq_getElem _
    rw [totTo_succ D lo n j _ hd]
    unfold fkTo
    rw [List.foldl_append, ← tot_fk hi hev lo n hn j (by omega)]
    cases hl : isLf t j with
    | true => rw [if_pos rfl]; exact totRow_fk hd lo _ n hn
    | false => rw [if_neg (by simp)]; exact totRow_nil (hi.inn j _ hd hl).1 lo (totTo_ok hev lo n j (by omega)) n
/-! ### The root's items -/
theorem lvAt_eq {t : List Int} {D : List Nd} {k : Nat} {d : Nd} (hk : k < t.length) (hd : D[k]? = some d) : lvAt t D k = lvg t d k := by
  unfold lvAt
  rw [if_pos (by simp [isNd]; omega)]
  simp [hd]
theorem lvAt_good {t : List Int} {D : List Nd} {A : List (Int × List It)} (h : Inv t D A) (h8 : t.length ≤ 8) {m : Nat} (hm : m ≤ 1000000000) (hdi : DI D m) (hev : ∀ (k : Nat) (d : Nd), D[k]? = some d → EvOk d.lev) (k : Nat) (hk : k < t.length) : Good (lvAt t D k) := by
  have hld := h.ld
  have hd : D[k]? = some (D[k]'(by omega)) := List.getElem?_eq_getElem _
  rw [lvAt_eq hk hd]
  unfold lvg
  split
  · exact known_good k _ _ (by omega) (by omega) (hev k _ hd) (by have := (hdi k _ hd).1; omega)
  · exact (h.gd k _ hd).1
theorem lvAt_lf {t : List Int} {D : List Nd} {A : List (Int × List It)} (h : Inv t D A) (k : Nat) (hk : k < t.length) (x : It) (hx : x ∈ lvAt t D k) : isLf t x.leaf = true := by
  have hld := h.ld
  have hd : D[k]? = some (D[k]'(by omega)) := List.getElem?_eq_getElem _
  rw [lvAt_eq hk hd] at hx
  unfold lvg at hx
  split at hx
  · rename_i hl
    unfold known knownTo at hx
    obtain ⟨v, _, rfl⟩ := List.mem_map.1 hx
    exact hl
  · exact (h.it k _ hd x (.inl hx)).1.lf
theorem key_inc {l : List It} (h : Good l) (f : It → Bool) : ((l.filter f).map kyO).Pairwise (· < ·) := by
  have hg := h.filter f
  rw [List.pairwise_map]
  refine (List.Pairwise.and_mem.1 hg.srt).imp fun {x y} hxy => ?_
  obtain ⟨hx, hy, ha⟩ := hxy
  have b1 := hg.inb x hx
  have b2 := hg.inb y hy
  rw [ahd_iff] at ha
  unfold kyO
  omega
theorem key_mem {t : List Int} {D : List Nd} {A : List (Int × List It)} (h : Inv t D A) (lo n : Nat) (hi : Int) (hhi : hi = (lo : Int) + n - 1) (k : Nat) (hk : k < t.length) (x : It) (hx : x ∈ (lvAt t D k).filter (inRg lo hi)) : kyO x ∈ fkTo t lo n t.length ∧ (x.fin = true → x.sk = gkO D (kyO x)) := by
  obtain ⟨h1, h2⟩ := List.mem_filter.1 hx
  have hl := lvAt_lf h k hk x h1
  obtain ⟨lf, wn, vr, e1, e2, e3, b1, b2, d, hd, b3, b4, b5⟩ := (lvAt_is h k hk x h1).nat
  simp only [inRg, decide_eq_true_eq] at h2
  have ek : kyO x = (lf : Int) * 20 + wn := by unfold kyO; rw [e1, e2]
  refine ⟨fk_mem.2 ⟨lf, wn - lo, b1, by rw [← e1]; exact hl, by omega, by rw [ek]; omega⟩, fun hf => ?_⟩
  rw [ek, gk_at hd wn b2, b4, (b5 hf).2, List.take_length]
theorem cnt_len (l : List It) : cnt l ≤ l.length := List.length_filter_le _ _
theorem cnt_all {l : List It} (h : l.length ≤ cnt l) : ∀ x ∈ l, x.fin = true := fun x hx => by
  have e : l.filter (·.fin) = l := List.filter_sublist.eq_of_length_le h
  have : x ∈ l.filter (·.fin) := by rw [e]; exact hx
  exact (List.mem_filter.1 this).2
theorem skAll_fk {D : List Nd} (l : List It) (h : ∀ x ∈ l, x.sk = gkO D (kyO x)) : skAll l = (l.map kyO).foldl (fun s q => mrg s (gkO D q)) Sk.empty := by
  unfold skAll
  suffices H : ∀ (l : List It) (s : Sk), (∀ x ∈ l, x.sk = gkO D (kyO x)) → l.foldl (fun s x => mrg s x.sk) s = (l.map kyO).foldl (fun s q => mrg s (gkO D q)) s from H l _ h
  intro l
  induction l with
  | nil => intro s _; rfl
  | cons x l ih =>
    intro s h
    simp only [List.foldl_cons, List.map_cons]
    rw [h x (by simp)]
    exact ih _ fun y hy => h y (by simp [hy])
/-- Sealed, it is all. -/
theorem seal_tot {t : List Int} (hT : Tree t) {D : List Nd} {A : List (Int × List It)} (h : Inv t D A) {m : Nat} (hm : m ≤ 1000000000) (hdi : DI D m) (hev : ∀ (k : Nat) (d : Nd), D[k]? = some d → EvOk d.lev) (lo n : Nat) (hn : lo + n ≤ 20) (hi : Int) (hhi : hi = (lo : Int) + n - 1) (hs : (askAn t (lvAt t D 0) 0 lo hi).sealed = true) (he : askErr t 0 lo hi = 0) :
    (askAn t (lvAt t D 0) 0 lo hi).sk = totTo D lo n t.length := by
  have hp := hT.pos
  unfold askAn at hs ⊢
  rw [if_pos he] at hs ⊢
  simp only [decide_eq_true_eq] at hs
  show skAll ((lvAt t D ((0 : Nat) : Int)).filter (inRg lo hi)) = _
  replace hs : (cnt ((lvAt t D ((0 : Nat) : Int)).filter (inRg lo hi)) : Int) = (lvU t 0 t.length : Int) * (hi - lo + 1) := hs
  have hlen := fk_len hT lo n t.length (Nat.le_refl _)
  have e1 : (lvU t 0 t.length : Int) * (hi - lo + 1) = ((fkTo t lo n t.length).length : Int) := by rw [hlen, show hi - (lo : Int) + 1 = (n : Int) by omega]; simp
  rw [e1] at hs
  have hg := lvAt_good h hT.le hm hdi hev 0 (by omega)
  have hc := cnt_len ((lvAt t D ((0 : Nat) : Int)).filter (inRg lo hi))
  have heq : ((lvAt t D ((0 : Nat) : Int)).filter (inRg lo hi)).map kyO = fkTo t lo n t.length := by
    refine inc_eq (key_inc hg _) (fk_inc t lo n hn _) (fun q hq => ?_) (by rw [List.length_map]; omega)
    obtain ⟨x, hx, rfl⟩ := List.mem_map.1 hq
    exact (key_mem h lo n hi hhi 0 (by omega) x hx).1
  have hll : ((lvAt t D ((0 : Nat) : Int)).filter (inRg lo hi)).length = (fkTo t lo n t.length).length := by rw [← heq, List.length_map]
  have hfin := cnt_all (l := (lvAt t D ((0 : Nat) : Int)).filter (inRg lo hi)) (by omega)
  rw [skAll_fk _ fun x hx => (key_mem h lo n hi hhi 0 (by omega) x hx).2 (hfin x hx), heq, tot_fk h hev lo n hn _ (Nat.le_refl _)]
/-- Where the root has the last item of every leaf's window, it says so. -/
theorem seal_yes {t : List Int} (hT : Tree t) {D : List Nd} {A : List (Int × List It)} (h : Inv t D A) {m : Nat} (hm : m ≤ 1000000000) (hdi : DI D m) (hev : ∀ (k : Nat) (d : Nd), D[k]? = some d → EvOk d.lev) (lo n : Nat) (hn : lo + n ≤ 20) (hi : Int) (hhi : hi = (lo : Int) + n - 1) (he : askErr t 0 lo hi = 0) (hall : ∀ k v : Nat, k < t.length → isLf t k = true → v < 20 → ∃ x ∈ lvAt t D 0, x.leaf = k ∧ x.win = v ∧ x.fin = true) :
    (askAn t (lvAt t D 0) 0 lo hi).sealed = true ∧ (askAn t (lvAt t D 0) 0 lo hi).closed = ((lvU t 0 t.length * n : Nat) : Int) := by
  have hp := hT.pos
  have hg := lvAt_good h hT.le hm hdi hev 0 (by omega)
  have hlen := fk_len hT lo n t.length (Nat.le_refl _)
  have hin := key_inc hg (inRg lo hi)
  have hsub : ∀ q ∈ ((lvAt t D ((0 : Nat) : Int)).filter (inRg lo hi)).map kyO, q ∈ fkTo t lo n t.length := fun q hq => by
    obtain ⟨x, hx, rfl⟩ := List.mem_map.1 hq
    exact (key_mem h lo n hi hhi 0 (by omega) x hx).1
  have hfin : ∀ q ∈ fkTo t lo n t.length, ∃ x ∈ (lvAt t D ((0 : Nat) : Int)).filter (inRg lo hi), kyO x = q ∧ x.fin = true := fun q hq => by
    obtain ⟨k, i, a1, a2, a3, rfl⟩ := fk_mem.1 hq
    obtain ⟨x, hx, b1, b2, b3⟩ := hall k (lo + i) a1 a2 (by omega)
    refine ⟨x, List.mem_filter.2 ⟨hx, ?_⟩, ?_, b3⟩
    · simp only [inRg, decide_eq_true_eq]; omega
    · unfold kyO; rw [b1, b2]; omega
  have hL : fkTo t lo n t.length = ((((lvAt t D ((0 : Nat) : Int)).filter (inRg lo hi)).filter (·.fin)).map kyO) := by
    refine inc_eq (fk_inc t lo n hn _) ?_ (fun q hq => ?_) ?_
    · rw [List.filter_filter]; exact key_inc hg _
    · obtain ⟨x, hx, e, hf⟩ := hfin q hq
      exact List.mem_map.2 ⟨x, List.mem_filter.2 ⟨hx, hf⟩, e⟩
    · have e1 := (inc_sub _ _ hin (fk_inc t lo n hn _) hsub).length_le
      have e2 := cnt_len ((lvAt t D ((0 : Nat) : Int)).filter (inRg lo hi))
      unfold cnt at e2
      rw [List.length_map] at e1 ⊢
      omega
  have hcn : cnt ((lvAt t D ((0 : Nat) : Int)).filter (inRg lo hi)) = lvU t 0 t.length * n := by
    rw [← hlen, hL, List.length_map]; rfl
  unfold askAn
  rw [if_pos he]
  refine ⟨?_, ?_⟩
  · simp only [decide_eq_true_eq]
    show (cnt ((lvAt t D ((0 : Nat) : Int)).filter (inRg lo hi)) : Int) = _
    rw [hcn, show hi - (lo : Int) + 1 = (n : Int) by omega]; simp
  · show (cnt ((lvAt t D ((0 : Nat) : Int)).filter (inRg lo hi)) : Int) = _
    rw [hcn]
end Go.Proofs.Ytpglbakcjihohaa

/-! A run looks at all that is known: every item is as it must be, every leaf has its own, what is sealed is all. -/
namespace Go.Proofs.Ytpglbakcjihohaa
open Go.RowKit
set_option maxRecDepth 100000

theorem KX.below {SR : SRT} (R : PR SR) {B0 bk bs : Nat} {t : List Int} {wid : Int} {m : Nat} {D : List Nd} {A : List (Int × List It)} {w w' : World} {own : Ghost} (h : KX SR B0 bk bs t wid m D A w own) (hb : Below w.heap.size w w') : KX SR B0 bk bs t wid m D A w' own := by
  obtain ⟨vt, vs, vl, C, PK, g⟩ := h
  exact ⟨vt, vs, vl, C, PK, g.below R hb⟩
theorem KX.ev {SR : SRT} {B0 bk bs : Nat} {t : List Int} {wid : Int} {m : Nat} {D : List Nd} {A : List (Int × List It)} {w : World} {own : Ghost} (h : KX SR B0 bk bs t wid m D A w own) : ∀ (k : Nat) (d : Nd), D[k]? = some d → EvOk d.lev := by
  obtain ⟨vt, vs, vl, C, PK, g⟩ := h
  exact fun k d hd => (g.nb k d hd).lev
theorem load_sk_mid_g {ops : Array Oper} {rest : List Oper} {o : Oper} {a : Act} {w : World} {Q : Exit → Act → World → Prop} (hw : Region.wanted o (yielded ops a.tmps) = true) (x : Operand) (ho : o.op = .load 27 x) (g off : Nat) (hx : a.eval x = .pointer (some ⟨g, off, none⟩)) (s : Sk) (hr : w.rangeAt g off s.cells.toList)
    (h : ∀ M, IsSk M s → wpList Try.prog ops Q rest (a.put o.dst (.agg M)) w) : wpList Try.prog ops Q (o :: rest) a w :=
  wpList_step fun _ hK => by
    rw [if_pos hw]
    exact wp_load_sk_mid x ho g off hx s hr fun M hM => hK _ _ (h M hM)
set_option maxHeartbeats 8000000 in
theorem kexact_any (SR : SRT) (R : PR SR) (w : World) (own : Ghost) (B0 bk bs : Nat) (t : List Int) (wid : Int) (m : Nat) (D : List Nd) (A : List (Int × List It)) (hg : KX SR B0 bk bs t wid m D A w own) (hm : m < 100000000) :
    Calls Try.prog 28 #[.pointer (some ⟨bk, 0, none⟩)] w fun e w' => e = .returned (.bool true) ∧ Below w.heap.size w w' := by
  have HX : Hid (KX SR B0 bk bs t wid m D A w own) := hg
  have HEVO : Hid (∀ (k : Nat) (d : Nd), D[k]? = some d → EvOk d.lev) := hg.ev
  obtain ⟨vt, vs, vl, C, PK, g⟩ := hg
  have h8 := g.T.le
  have hp1 := g.T.pos
  obtain ⟨N, hN⟩ : ∃ N, t.length = N := ⟨_, rfl⟩
  have HN : Hid (t.length = N) := hN
  obtain ⟨⟨tp, tn, tc⟩, hvt⟩ : ∃ v0 : Sl, v0 = vt := ⟨_, rfl⟩
  have htr : t.length = tn ∧ RowsAt clInt w tp t := by have := g.tr; rw [← hvt] at this; exact Own.sl (s := ⟨tp, tn, tc⟩) this
  have HTR : Hid (RowsAt clInt w tp t) := htr.2
  have C0 : Hid (w.cell? ⟨bk, 0, none⟩ = some (.pointer (some ⟨bs, 0, none⟩))) := by unfold Hid; rw [cell_of_row _ _ _ _ _ _ g.run]; rfl
  have C1 : Hid (w.cell? ⟨bk, 1, none⟩ = some (.slice tp N tc)) := by unfold Hid; rw [cell_of_row _ _ _ _ _ _ g.run, ← hvt, ← hN, htr.1]; rfl
  have HG : Hid (KD SR w own B0 bk bs t wid m D vt vs vl C PK A) := g
  have HR : Hid (PR SR) := R
  have HDI : Hid (DI D 100000000) := g.di.mono' (by omega)
  clear g R htr hvt
  go_enter Try.func28, Try.ntmps28
  go_wp2
  go_loopw [3] (fun i wr => ∃ k : Nat, k ≤ N ∧ i = .int .i64 k ∧ Below w.heap.size w wr) (fun i _ => N - (intOf i).toNat)
  case atStart => exact ⟨0, by omega, rfl, Below.refl _ _⟩
  case round =>
    obtain ⟨k, hk, rfl, hb⟩ := hrel
    have c0 := cell_keep hb C0.out
    have c1 := cell_keep hb C1.out
    have HB : Hid (Below w.heap.size w wr) := hb
    clear hb
    by_cases hlk : k < N
    · have hgl : Good (lvAt t D k) := lvAt_good HG.out.inv h8 (by omega) HDI.out HEVO.out k (by omega)
      have hln := hgl.len
      have HGL : Hid (Good (lvAt t D k)) := hgl
      clear hgl
      go_wp2_with (go_at_call 51; refine (HR.out.items wr own B0 bs t wid D (HR.out.below' HG.out.st HB.out) HDI.out k ⟨by omega, by omega⟩).mono ?_; rintro e w2 ⟨v2, rfl, ho2, hb2⟩; obtain ⟨ip, il, ic, rfl, hil⟩ : ∃ ip il ic, v2 = .slice ip il ic ∧ (lvAt t D k).length = il := (by obtain ⟨p', c', e, _⟩ := ho2.form; exact ⟨p', _, c', e, rfl⟩); have HRW : Hid (RowsAt clIt w2 ip (lvAt t D k)) := (Own.sl (s := ⟨ip, il, ic⟩) ho2).2; have HIL : Hid ((lvAt t D k).length = il) := hil; have HB2 : Hid (Below w.heap.size w w2) := bnext HB.out hb2; clear ho2 hb2)
      go_loopw [5] (fun i wr => ∃ q : Nat, q ≤ il ∧ i = .int .i64 q ∧ Below w.heap.size w wr ∧ RowsAt clIt wr ip (lvAt t D k)) (fun i _ => il - (intOf i).toNat)
      case atStart => exact ⟨0, by omega, rfl, HB2.out, HRW.out⟩
      case round =>
        obtain ⟨q, hq, rfl, hb3, hr3⟩ := hrel
        have HB3 : Hid (Below w.heap.size w wr) := hb3
        have HR3 : Hid (RowsAt clIt wr ip (lvAt t D k)) := hr3
        clear c0 c1
        have c0 := cell_keep hb3 C0.out
        have c1 := cell_keep hb3 C1.out
        clear hb3
        by_cases hlq : q < il
        · obtain ⟨gp, op, rfl, hgp, hrg⟩ := hr3.pos q (by omega)
          obtain ⟨x, hx⟩ : ∃ x, (lvAt t D k)[q]? = some x := ⟨_, List.getElem?_eq_getElem (by omega)⟩
          have HRG : Hid (wr.rangeAt gp (op + q * 32) x.cells) := hrg q x hx
          have HIS : Hid (ItIs t D x) := lvAt_is HG.out.inv k (by omega) x (List.mem_of_getElem? hx)
          have HOK : Hid x.Ok := HGL.out.ok.mem (List.mem_of_getElem? hx)
          clear hr3 hrg hx
          go_wp2_with (first | (refine load_it_mid rfl _ rfl _ _ rfl x (by exact HRG.out) ?_; intro Y hY) | (go_at_call 52; refine (kitem_any SR wr own B0 bk bs t wid m D A (HX.out.below HR.out HB3.out) hm x Y hY HOK.out HIS.out).mono ?_; rintro e w4 ⟨rfl, hb4⟩; have HB4 : Hid (Below wr.heap.size wr w4) := hb4; clear hb4 hY))
          go_roundw
          case rel => exact ⟨q + 1, by omega, by go_num, bnext HB3.out HB4.out, HR3.out.below HB4.out⟩
          case measure => simp [intOf]; omega
        · obtain rfl : q = il := by omega
          clear hr3
          obtain ⟨f, hf⟩ : ∃ f, isLf t k = f := ⟨_, rfl⟩
          have HF : Hid (isLf t k = f) := hf
          cases f with
          | true =>
            clear hf
            go_wp2_with (first | (go_at_call 53; refine (kleaf_any t tp N tc k _ HN.out (HTR.out.below HB3.out) (by omega)).mono ?_; rintro e wA ⟨rfl, hwA⟩; have hwA := hwA.symm; subst hwA; rw [HF.out]) | (go_at_call 54; refine (kowns_any SR HR.out _ own B0 bk bs t wid m D A (HX.out.below HR.out HB3.out) hm k (by omega) HF.out ip _ ic HIL.out HR3.out).mono ?_; rintro e w4 ⟨rfl, hb4⟩; have HB4 : Hid (Below w.heap.size w w4) := bnext HB3.out hb4; clear hb4))
            go_roundw
            case rel => exact ⟨k + 1, by omega, by go_num, HB4.out⟩
            case measure => simp [intOf]; omega
          | false =>
            clear hf
            go_wp2_with (go_at_call 53; refine (kleaf_any t tp N tc k _ HN.out (HTR.out.below HB3.out) (by omega)).mono ?_; rintro e wA ⟨rfl, hwA⟩; have hwA := hwA.symm; subst hwA; rw [HF.out])
            go_roundw
            case rel => exact ⟨k + 1, by omega, by go_num, HB3.out⟩
            case measure => simp [intOf]; omega
    · go_wp2
      clear c0 c1
      go_loopw [8] (fun i wr => ∃ q : Nat, q ≤ 20 ∧ i = .int .i64 q ∧ Below w.heap.size w wr) (fun i _ => 20 - (intOf i).toNat)
      case atStart => exact ⟨0, by omega, rfl, HB.out⟩
      case round =>
        obtain ⟨q, hq, rfl, hb⟩ := hrel
        have c0 := cell_keep hb C0.out
        have HBq : Hid (Below w.heap.size w wr) := hb
        clear hb
        by_cases hlq : q < 20
        · have HE : Hid (askErr t 0 q q = 0) := by unfold Hid askErr; rw [if_pos (by simp [isNd]; omega), if_pos (by simp [isRg]; omega)]
          obtain ⟨an, han⟩ : ∃ an, an = askAn t (lvAt t D 0) 0 q q := ⟨_, rfl⟩
          have HAN : Hid (askAn t (lvAt t D 0) 0 q q = an) := han.symm
          have HSE : Hid (an.sealed = true → an.sk = totTo D q 1 t.length) := fun hs => by
            rw [han] at hs ⊢
            exact seal_tot HG.out.T HG.out.inv (by omega) HDI.out HEVO.out q 1 (by omega) q (by omega) hs HE.out
          have HOKT : Hid (totTo D q 1 t.length).Ok := totTo_ok HEVO.out q 1 _ (by rw [HG.out.inv.ld]; exact Nat.le_refl _)
          clear han
          obtain ⟨sb, hsb⟩ : ∃ sb, an.sealed = sb := ⟨_, rfl⟩
          have HSB : Hid (an.sealed = sb) := hsb
          clear hsb
          go_upto_region 19 with (first | (go_at_call 32; refine (HR.out.ask wr own B0 bs t wid D (HR.out.below' HG.out.st HBq.out) HDI.out 0 q q ⟨by omega, by omega⟩ ⟨by omega, by omega⟩ ⟨by omega, by omega⟩).mono ?_; rintro e w2 ⟨AA, rfl, hA, hb2⟩; rw [HE.out]; rw [HAN.out] at hA; have HA : Hid (IsAn AA an) := hA; have HB2 : Hid (Below w.heap.size w w2) := bnext HBq.out hb2; clear hA hb2) | (refine alloc_an rfl rfl ?_; intro Z hZ) | (refine store_an_new rfl _ _ rfl AA _ _ rfl rfl (by rfl) HA.out hZ ?_) | (go_at_call 33; refine (ktotal_any SR HR.out _ own B0 bk bs t wid m D A (HX.out.below HR.out (bnext HB2.out (below_alloc _ _))) hm q 1 (by omega) q (by omega)).mono ?_; rintro e w4 ⟨M, rfl, hM, hb4⟩; have HM : Hid (IsSk M (totTo D q 1 t.length)) := hM; have GA4 : Hid (w4.heap[w2.heap.size]? = some (.cells AA 63)) := keep hb4 (heap_alloc_new _ _); have HB4 : Hid (Below w.heap.size w w4) := bnext (bnext HB2.out (below_alloc _ _)) hb4; clear hM hb4) | (refine alloc_sk rfl rfl ?_; intro Z2 hZ2) | (refine store_sk_new rfl _ _ rfl M _ _ rfl rfl (by rfl) HM.out hZ2 ?_))
          rename World => w4
          obtain ⟨w5, hw5⟩ : ∃ w5, w5 = w4.alloc (.cells M 27) := ⟨_, rfl⟩
          have GA5 : Hid (w5.heap[w2.heap.size]? = some (.cells AA 63)) := by unfold Hid; rw [hw5]; exact blk_old GA4.out
          have GM5 : Hid (w5.heap[w4.heap.size]? = some (.cells M 27)) := by unfold Hid; rw [hw5]; exact heap_alloc_new _ _
          have HB5 : Hid (Below w.heap.size w w5) := by unfold Hid; rw [hw5]; exact bnext HB4.out (below_alloc _ _)
          have s28 : w5.cell? ⟨w2.heap.size, 28, none⟩ = some (.bool sb) := by rw [cell_of_row _ _ _ _ _ _ GA5.out, ← HSB.out]; exact HA.out.get28
          rw [← hw5]
          clear hw5 GA4
          try dsimp only
          try simp only [Act.put, List.getElem_toArray, List.getElem_cons_succ, List.getElem_cons_zero, List.setIfInBounds_toArray, List.set_cons_zero, List.set_cons_succ]
          cases sb with
          | false =>
            go_wp2
            go_roundw
            case rel => exact ⟨q + 1, by omega, by go_num, HB5.out⟩
            case measure => simp [intOf]; omega
          | true =>
            have HM5 : Hid (IsSk M an.sk) := by unfold Hid; rw [HSE.out HSB.out]; exact HM.out
            have HOK5 : Hid an.sk.Ok := by unfold Hid; rw [HSE.out HSB.out]; exact HOKT.out
            go_wp2_with (first | (refine load_sk_mid_g (by rfl) _ rfl _ 0 rfl an.sk (by exact HA.out.range0 GA5.out) ?_; intro S hS; have hSM : S = M := hS.trans HM5.out.symm; subst hSM) | (refine load_sk_g (by rfl) _ rfl _ rfl _ _ HM5.out (by exact GM5.out) ?_) | (refine neq_sk_g (by rfl) _ _ _ rfl _ _ HM5.out HOK5.out rfl rfl ?_))
            go_roundw
            case rel => exact ⟨q + 1, by omega, by go_num, HB5.out⟩
            case measure => simp [intOf]; omega
        · go_wp2
          go_ret
          exact ⟨rfl, HBq.out⟩
end Go.Proofs.Ytpglbakcjihohaa

/-! A key cut short. -/
namespace Go.Proofs.Ytpglbakcjihohaa
open Go.RowKit
set_option maxRecDepth 100000

set_option maxHeartbeats 1000000 in
theorem kshort_any (s : ByteArray) (hs : s.size ≤ maxLen) (w : World) :
    Calls Try.prog 46 #[.string s] w fun e w' => ∃ s' : ByteArray, e = .returned (.string s') ∧ s'.size ≤ 20 ∧ w' = w := by
  have hs' : s.size ≤ 9223372036854775807 := by unfold maxLen at hs; omega
  by_cases h : 20 < s.size
  · go_enter Try.func46, Try.ntmps46
    go_wp2
    go_ret
    exact ⟨_, rfl, by simp; omega, rfl⟩
  · go_enter Try.func46, Try.ntmps46
    go_wp2
    go_ret
    exact ⟨_, rfl, by omega, rfl⟩
end Go.Proofs.Ytpglbakcjihohaa

/-! One step of a run. -/
namespace Go.Proofs.Ytpglbakcjihohaa
open Go.RowKit
set_option maxRecDepth 100000

/-- What is stored stays. -/
def Kst (D D' : List Nd) : Prop := ∀ (k : Nat) (d : Nd), D[k]? = some d → ∃ d', D'[k]? = some d' ∧ d'.kev = d.kev ∧ d'.kcl = d.kcl ∧ d'.kmk = d.kmk ∧ d'.saved = d.saved
theorem Kst.refl (D : List Nd) : Kst D D := fun k d h => ⟨d, h, rfl, rfl, rfl, rfl⟩
theorem Kst.trans {D D' D'' : List Nd} (h : Kst D D') (g : Kst D' D'') : Kst D D'' := fun k d hd => by
  obtain ⟨d', h0, h1, h2, h3, h4⟩ := h k d hd
  obtain ⟨d'', g0, g1, g2, g3, g4⟩ := g k d' h0
  exact ⟨d'', g0, g1.trans h1, g2.trans h2, g3.trans h3, g4.trans h4⟩
theorem kst_set {D : List Nd} {k : Nat} {d d' : Nd} (h : D[k]? = some d) (h1 : d'.kev = d.kev) (h2 : d'.kcl = d.kcl) (h3 : d'.kmk = d.kmk) (h4 : d'.saved = d.saved) : Kst D (D.set k d') := fun j e he => by
  by_cases ej : k = j
  · subst ej
    rw [h] at he; cases he
    exact ⟨d', List.getElem?_set_self (List.getElem?_eq_some_iff.1 h).1, h1, h2, h3, h4⟩
  · exact ⟨e, by rw [List.getElem?_set_ne ej]; exact he, rfl, rfl, rfl, rfl⟩
theorem kst_ing (t : List Int) (wid : Int) (D : List Nd) (n at' : Int) (key : ByteArray) (v : Int) : Kst D (ingD t wid D n at' key v) := by
  unfold ingD
  split
  · split
    · rename_i d hd; exact kst_set hd rfl rfl rfl rfl
    · exact Kst.refl D
  · exact Kst.refl D
theorem kst_adv (t : List Int) (wid : Int) (D : List Nd) (n tm : Int) : Kst D (advD t wid D n tm) := by
  unfold advD
  split
  · split
    · rename_i d hd; exact kst_set hd rfl rfl rfl rfl
    · exact Kst.refl D
  · exact Kst.refl D
theorem kst_del (t : List Int) (D : List Nd) (n fr : Int) (l : List It) : Kst D (delD t D n fr l) := by
  unfold delD
  split
  · split
    · rename_i d hd; exact kst_set hd rfl rfl rfl rfl
    · exact Kst.refl D
  · exact Kst.refl D
theorem kst_br {t : List Int} {A : List (Int × List It)} {D D' : List Nd} (h : BrD t A D D') : Kst D D' := by
  rcases h with rfl | ⟨p, _, rfl⟩
  · exact Kst.refl _
  · exact kst_del _ _ _ _ _
theorem lvs_pos {t : List Int} (hT : Tree t) : 1 ≤ (lvsTo t t.length).length := by
  have h1 := hT.pos
  have hl : isLf t ((t.length - 1 : Nat) : Int) = true := by
    unfold isLf
    simp only [decide_eq_true_eq]
    intro hm
    obtain ⟨i, hi⟩ := List.getElem?_of_mem hm
    have hil := (List.getElem?_eq_some_iff.1 hi).1
    have hlt := hT.lt i hil
    have e : t.getD i (-1) = ((t.length - 1 : Nat) : Int) := by simp [List.getD, hi]
    rw [e] at hlt
    omega
  have := lvsTo_yes t (t.length - 1) hl
  rw [show t.length - 1 + 1 = t.length by omega] at this
  rw [this]; simp
theorem lvs_at {t : List Int} {N : Nat} (q : Nat) (hq : q < (lvsTo t N).length) : ∃ j : Nat, (lvsTo t N)[q]? = some (j : Int) ∧ j < N ∧ isLf t j = true := by
  have h1 : (lvsTo t N)[q]? = some ((lvsTo t N)[q]'hq) := List.getElem?_eq_getElem _
  have hm := List.getElem_mem hq
  obtain ⟨j, hj, e⟩ := List.mem_map.1 hm
  obtain ⟨h2, h3⟩ := List.mem_filter.1 hj
  exact ⟨j, by rw [h1, ← e], by simpa using h2, h3⟩
theorem KN.grow {SR : SRT} {B0 bk bs : Nat} {t : List Int} {wid : Int} {m m' : Nat} {D : List Nd} {A : List (Int × List It)} {w w' : World} {own : Ghost} (h : KN SR B0 bk bs t wid m D A w own w') (hm : m ≤ m') : KN SR B0 bk bs t wid m' D A w own w' := by
  obtain ⟨own', ⟨vt, vs, vl, C, PK, g⟩, s, f⟩ := h
  exact ⟨own', ⟨vt, vs, vl, C, PK, g.mono hm⟩, s, f⟩
theorem KN.same {SR : SRT} (R : PR SR) {B0 bk bs : Nat} {t : List Int} {wid : Int} {m : Nat} {D : List Nd} {A : List (Int × List It)} {w w' : World} {own : Ghost} (h : KX SR B0 bk bs t wid m D A w own) (hb : Below w.heap.size w w') : KN SR B0 bk bs t wid m D A w own w' :=
  ⟨own, h.below R hb, Same.refl _ _, Fr.of_below hb⟩
theorem KX.chg {SR : SRT} (R : PR SR) {B0 bk bs : Nat} {t : List Int} {wid : Int} {m : Nat} {D : List Nd} {A : List (Int × List It)} {w w' : World} {own own2 : Ghost} (h : KX SR B0 bk bs t wid m D A w own) (hb : Below w.heap.size w w') (ho : ∀ j, j < w.heap.size → own2 j = own j) : KX SR B0 bk bs t wid m D A w' own2 := by
  obtain ⟨vt, vs, vl, C, PK, g⟩ := h
  exact ⟨vt, vs, vl, C, PK, g.chg R (S := fun _ => False) (Fr.of_below hb) (fun j hj _ => ho j hj) (fun _ h => h.elim)⟩
/-- What the program keeps to. -/
structure PA (SR : SRT) : Prop where
  R : PR SR
  L : PL SR
  S : PS SR
  D : PD SR
  J : PJ2 SR
set_option maxHeartbeats 16000000 in
theorem kstep_any (SR : SRT) (P : PA SR) (w : World) (own : Ghost) (B0 bk bs : Nat) (t : List Int) (wid : Int) (m : Nat) (D : List Nd) (A : List (Int × List It)) (hg : KX SR B0 bk bs t wid m D A w own) (hm : m < 99999999) (kd a b : Int) (s : ByteArray) (v : Int) (hkd : fitsI kd) (ha : fitsI a) (hbb : fitsI b) (hs : s.size ≤ maxLen) (v0 : -2147483648 ≤ v) (v1 : v ≤ 2147483647) :
    Calls Try.prog 27 #[.pointer (some ⟨bk, 0, none⟩), .agg #[.int .i64 kd, .int .i64 a, .int .i64 b, .string s, .int .i32 v]] w fun e w' => e = .returned (.bool true) ∧ ∃ D' A', KN SR B0 bk bs t wid (m + 1) D' A' w own w' ∧ (pk kd 8 ≠ 2 → pk kd 8 ≠ 3 → Kst D D') := by
  have HX : Hid (KX SR B0 bk bs t wid m D A w own) := hg
  have HP : Hid (PA SR) := P
  obtain ⟨vt, vs, vl, C, PK, g⟩ := hg
  have h8 := g.T.le
  have hp1 := g.T.pos
  have w0 := g.wid0
  have w9 := g.wid1
  obtain ⟨N, hN⟩ : ∃ N, t.length = N := ⟨_, rfl⟩
  have HN : Hid (t.length = N) := hN
  obtain ⟨⟨tp, tn, tc⟩, hvt⟩ : ∃ v0 : Sl, v0 = vt := ⟨_, rfl⟩
  have htr : t.length = tn ∧ RowsAt clInt w tp t := by have := g.tr; rw [← hvt] at this; exact Own.sl (s := ⟨tp, tn, tc⟩) this
  have HTR : Hid (RowsAt clInt w tp t) := htr.2
  have c1 : w.cell? ⟨bk, 1, none⟩ = some (.slice tp N tc) := by rw [cell_of_row _ _ _ _ _ _ g.run, ← hvt, ← hN, htr.1]; rfl
  have c2 : w.cell? ⟨bk, 2, none⟩ = some (.int .i64 wid) := by rw [cell_of_row _ _ _ _ _ _ g.run]; rfl
  have hN1 : (1 : Int) ≤ (N : Int) := by omega
  have hpn := pk_bd a N hN1
  obtain ⟨n, hn⟩ : ∃ n : Nat, pk a N = n := ⟨(pk a N).toNat, by omega⟩
  have HPN : Hid (pk a N = n) := hn
  have hnN : n < N := by omega
  obtain ⟨LN, hLN⟩ : ∃ LN, (lvsTo t N).length = LN := ⟨_, rfl⟩
  have HLN : Hid ((lvsTo t N).length = LN) := hLN
  have hL1 : 1 ≤ LN := by rw [← hLN, ← hN]; exact lvs_pos g.T
  have hL8 : LN ≤ 8 := by have := lvsTo_len t N; omega
  have hpl := pk_bd a LN (by omega)
  obtain ⟨q, hq⟩ : ∃ q : Nat, pk a LN = q := ⟨(pk a LN).toNat, by omega⟩
  have HPQ : Hid (pk a LN = q) := hq
  obtain ⟨k, hkq, hkN, hkl⟩ := lvs_at (t := t) (N := N) q (by omega)
  have HKQ : Hid ((lvsTo t N)[q]? = some (k : Int)) := hkq
  have HKL : Hid (isLf t k = true) := hkl
  have hpb := pk_bd b 20 (by omega)
  obtain ⟨wq, hwq⟩ : ∃ wq : Nat, pk b 20 = wq := ⟨(pk b 20).toNat, by omega⟩
  have HPW : Hid (pk b 20 = wq) := hwq
  have hwq20 : wq < 20 := by omega
  have hpk8 := pk_bd kd 8 (by omega)
  obtain ⟨kk, hkk⟩ : ∃ kk : Int, pk kd 8 = kk := ⟨_, rfl⟩
  have HKK : Hid (pk kd 8 = kk) := hkk
  rw [hkk] at hpk8 ⊢
  have HT : Hid (Tree t) := g.T
  clear g P htr hvt hn hpn hLN hpl hq hkq hkl hwq hpb hkk
  have q0 : (0 : Int) ≤ (q : Int) := by omega
  have q1 : (q : Int) < (LN : Int) := by have := HPQ.out; have := pk_bd a LN (by omega); omega
  go_enter Try.func27, Try.ntmps27
  go_upto_region 1 with fail
  obtain ⟨w1, hw1⟩ : ∃ w1, w1 = w.alloc (.cells #[.int .i64 kd, .int .i64 a, .int .i64 b, .string s, .int .i32 v] 52) := ⟨_, rfl⟩
  have hb1 : Below w.heap.size w w1 := by rw [hw1]; exact below_alloc _ _
  have G1 : w1.heap[w.heap.size]? = some (.cells #[.int .i64 kd, .int .i64 a, .int .i64 b, .string s, .int .i32 v] 52) := by rw [hw1]; exact heap_alloc_new _ _
  rw [← hw1]
  have o0 : w1.cell? ⟨w.heap.size, 0, none⟩ = some (.int .i64 kd) := by rw [cell_of_row _ _ _ _ _ _ G1]; rfl
  have o1 : w1.cell? ⟨w.heap.size, 1, none⟩ = some (.int .i64 a) := by rw [cell_of_row _ _ _ _ _ _ G1]; rfl
  have o2 : w1.cell? ⟨w.heap.size, 2, none⟩ = some (.int .i64 b) := by rw [cell_of_row _ _ _ _ _ _ G1]; rfl
  have o3 : w1.cell? ⟨w.heap.size, 3, none⟩ = some (.string s) := by rw [cell_of_row _ _ _ _ _ _ G1]; rfl
  have o4 : w1.cell? ⟨w.heap.size, 4, none⟩ = some (.int .i32 v) := by rw [cell_of_row _ _ _ _ _ _ G1]; rfl
  replace c1 := cell_keep hb1 c1
  replace c2 := cell_keep hb1 c2
  have HB1 : Hid (Below w.heap.size w w1) := hb1
  clear G1 hb1 hw1
  have hT0 : (fun w' : World => w'.cell? ⟨w.heap.size, 1, none⟩ = some (.int .i64 a) ∧ w'.cell? ⟨bk, 1, none⟩ = some (.slice tp N tc)) w1.drew := ⟨o1, c1⟩
  refine wp_region_held (S := fun w' : World => w'.cell? ⟨w.heap.size, 1, none⟩ = some (.int .i64 a) ∧ w'.cell? ⟨bk, 1, none⟩ = some (.slice tp N tc)) mixed ?_
  refine wpAnyH_take (i := 0) (v := (.pointer (some ⟨w.heap.size, 1, none⟩))) rfl (by kernel_rfl) (by kernel_rfl) (by kernel_rfl) (fun _ _ _ h => h) (Or.inl ⟨by rfl, fun wx hx => by go_simp⟩) hT0 ?_
  try dsimp only
  try simp only [Act.put, List.getElem_toArray, List.getElem_cons_succ, List.getElem_cons_zero, List.setIfInBounds_toArray, List.set_cons_zero, List.set_cons_succ]
  refine wpAnyH_take (i := 1) (v := (.int .i64 a)) rfl (by kernel_rfl) (by kernel_rfl) (by kernel_rfl) (fun _ _ _ h => h) (Or.inl ⟨by rfl, fun wx hx => by have hx1 := hx.1; go_simp⟩) hT0 ?_
  try dsimp only
  try simp only [Act.put, List.getElem_toArray, List.getElem_cons_succ, List.getElem_cons_zero, List.setIfInBounds_toArray, List.set_cons_zero, List.set_cons_succ]
  refine wpAnyH_take (i := 2) (v := (.pointer (some ⟨bk, 0, none⟩))) rfl (by kernel_rfl) (by kernel_rfl) (by kernel_rfl) (fun _ _ _ h => h) (Or.inl ⟨by rfl, fun wx hx => by go_simp⟩) hT0 ?_
  try dsimp only
  try simp only [Act.put, List.getElem_toArray, List.getElem_cons_succ, List.getElem_cons_zero, List.setIfInBounds_toArray, List.set_cons_zero, List.set_cons_succ]
  refine wpAnyH_take (i := 3) (v := (.pointer (some ⟨bk, 0, none⟩))) rfl (by kernel_rfl) (by kernel_rfl) (by kernel_rfl) (fun _ _ _ h => h) (Or.inl ⟨by rfl, fun wx hx => by go_simp⟩) hT0 ?_
  try dsimp only
  try simp only [Act.put, List.getElem_toArray, List.getElem_cons_succ, List.getElem_cons_zero, List.setIfInBounds_toArray, List.set_cons_zero, List.set_cons_succ]
  refine wpAnyH_take (i := 4) (v := (.pointer (some ⟨bk, 1, none⟩))) rfl (by kernel_rfl) (by kernel_rfl) (by kernel_rfl) (fun _ _ _ h => h) (Or.inl ⟨by rfl, fun wx hx => by go_simp⟩) hT0 ?_
  try dsimp only
  try simp only [Act.put, List.getElem_toArray, List.getElem_cons_succ, List.getElem_cons_zero, List.setIfInBounds_toArray, List.set_cons_zero, List.set_cons_succ]
  refine wpAnyH_take (i := 5) (v := (.slice tp N tc)) rfl (by kernel_rfl) (by kernel_rfl) (by kernel_rfl) (fun _ _ _ h => h) (Or.inl ⟨by rfl, fun wx hx => by have hx1 := hx.2; go_simp⟩) hT0 ?_
  try dsimp only
  try simp only [Act.put, List.getElem_toArray, List.getElem_cons_succ, List.getElem_cons_zero, List.setIfInBounds_toArray, List.set_cons_zero, List.set_cons_succ]
  refine wpAnyH_take (i := 6) (v := (.int .i64 N)) rfl (by kernel_rfl) (by kernel_rfl) (by kernel_rfl) (fun _ _ _ h => h) (Or.inl ⟨by rfl, fun wx hx => by go_simp⟩) hT0 ?_
  try dsimp only
  try simp only [Act.put, List.getElem_toArray, List.getElem_cons_succ, List.getElem_cons_zero, List.setIfInBounds_toArray, List.set_cons_zero, List.set_cons_succ]
  refine wpAnyH_all (rs := [7]) (by kernel_rfl) (by simp) ?_
  intro jj hjj
  simp only [List.mem_cons, List.not_mem_nil, or_false] at hjj
  subst hjj
  refine wpOp_of_wp rfl rfl ?_
  go_simp
  refine (pick_any a N _ ha.1 ha.2 hN1 (by omega)).mono ?_
  rintro e wA ⟨rfl, hwA⟩
  subst hwA
  rw [HPN.out]
  refine ⟨hT0, ?_⟩
  try dsimp only
  try simp only [Act.put, List.getElem_toArray, List.getElem_cons_succ, List.getElem_cons_zero, List.setIfInBounds_toArray, List.set_cons_zero, List.set_cons_succ]
  refine wpAnyH_take (i := 8) (v := (.int .i64 n)) rfl (by kernel_rfl) (by kernel_rfl) (by kernel_rfl) (fun _ _ _ h => h) (Or.inl ⟨by rfl, fun wx hx => by go_simp⟩) hT0 ?_
  try dsimp only
  try simp only [Act.put, List.getElem_toArray, List.getElem_cons_succ, List.getElem_cons_zero, List.setIfInBounds_toArray, List.set_cons_zero, List.set_cons_succ]
  refine wpAnyH_done (by kernel_rfl) ?_ _
  clear hT0
  obtain ⟨w2, hw2⟩ : ∃ w2, w2 = w1.drew := ⟨_, rfl⟩
  have hb2 : Below w1.heap.size w1 w2 := by rw [hw2]; exact below_drew
  show Exit.then _ _ Exit.normal _ w1.drew
  rw [← hw2]
  replace c1 := cell_keep hb2 c1
  replace c2 := cell_keep hb2 c2
  replace o0 := cell_keep hb2 o0
  replace o1 := cell_keep hb2 o1
  replace o2 := cell_keep hb2 o2
  replace o3 := cell_keep hb2 o3
  replace o4 := cell_keep hb2 o4
  have HB2 : Hid (Below w.heap.size w w2) := bnext HB1.out hb2
  clear hw2 hb2
  go_upto_region 4 with (first | (go_at_call 29; refine (kleaves_any t tp N tc _ HN.out (HTR.out.below HB2.out) (by omega)).mono ?_; rintro e w3 ⟨v3, rfl, ho3, hb3⟩; obtain ⟨lp, lc, rfl⟩ : ∃ lp lc, v3 = .slice lp LN lc := (by obtain ⟨p', c', e, _⟩ := ho3.form; exact ⟨p', c', by rw [e, HLN.out]⟩); obtain ⟨gl, ol, rfl, hgl, hrl⟩ := (Own.sl (s := ⟨lp, LN, lc⟩) ho3).2.pos q (by have := HLN.out; omega); have cl : w3.cell? ⟨gl, ol + q, none⟩ = some (.int .i64 k) := (by have := hrl q _ HKQ.out 0 _ rfl; simpa using this); clear hrl ho3; replace c1 := cell_keep hb3 c1; replace c2 := cell_keep hb3 c2; replace o0 := cell_keep hb3 o0; replace o1 := cell_keep hb3 o1; replace o2 := cell_keep hb3 o2; replace o3 := cell_keep hb3 o3; replace o4 := cell_keep hb3 o4; have HB3 : Hid (Below w.heap.size w w3) := bnext HB2.out hb3; clear hb3) | (go_at_call 24; refine (pick_any a LN _ ha.1 ha.2 (by omega) (by omega)).mono ?_; rintro e wA ⟨rfl, hwA⟩; have hwA := hwA.symm; subst hwA; rw [HPQ.out]))
  go_upto_region 5 with (go_at_call 24; refine (pick_any b 20 _ hbb.1 hbb.2 (by omega) (by omega)).mono ?_; rintro e wA ⟨rfl, hwA⟩; have hwA := hwA.symm; subst hwA; rw [HPW.out])
  go_upto_region 6 with (go_at_call 24; refine (pick_any kd 8 _ hkd.1 hkd.2 (by omega) (by omega)).mono ?_; rintro e wA ⟨rfl, hwA⟩; have hwA := hwA.symm; subst hwA; rw [HKK.out])
  rename World => w3
  have HX3 : Hid (KX SR B0 bk bs t wid m D A w3 own) := HX.out.below HP.out.R HB3.out
  clear cl c1 o0 o1
  have hcs : kk = 0 ∨ kk = 1 ∨ kk = 2 ∨ kk = 3 ∨ kk = 4 ∨ kk = 5 ∨ kk = 6 ∨ kk = 7 := by omega
  clear hpk8
  rcases hcs with rfl | rfl | rfl | rfl | rfl | rfl | rfl | rfl
  · go_upto_region 7 with fail
    obtain ⟨en, hen⟩ : ∃ en, en = 20 * wid := ⟨_, rfl⟩
    have e20 : IntKind.i64.wrap (20 * wid) = en := by rw [hen]; exact IntWalk.i64_in _ ⟨by omega, by omega⟩
    have hen1 : 1 ≤ en := by omega
    have hen2 : en ≤ 20000 := by omega
    have hat := pk_bd b en hen1
    have HEN : Hid (en = 20 * wid) := hen
    clear hen
    have hT0 : (fun w' : World => w'.cell? ⟨w.heap.size, 2, none⟩ = some (.int .i64 b) ∧ w'.cell? ⟨bk, 2, none⟩ = some (.int .i64 wid)) w3.drew := ⟨o2, c2⟩
    refine wp_region_held (S := fun w' : World => w'.cell? ⟨w.heap.size, 2, none⟩ = some (.int .i64 b) ∧ w'.cell? ⟨bk, 2, none⟩ = some (.int .i64 wid)) mixed ?_
    refine wpAnyH_take (i := 0) (v := (.pointer (some ⟨w.heap.size, 2, none⟩))) rfl (by kernel_rfl) (by kernel_rfl) (by kernel_rfl) (fun _ _ _ h => h) (Or.inl ⟨by rfl, fun wx hx => by go_simp⟩) hT0 ?_
    try dsimp only
    try simp only [Act.put, List.getElem_toArray, List.getElem_cons_succ, List.getElem_cons_zero, List.setIfInBounds_toArray, List.set_cons_zero, List.set_cons_succ]
    refine wpAnyH_take (i := 1) (v := (.int .i64 b)) rfl (by kernel_rfl) (by kernel_rfl) (by kernel_rfl) (fun _ _ _ h => h) (Or.inl ⟨by rfl, fun wx hx => by have hx1 := hx.1; go_simp⟩) hT0 ?_
    try dsimp only
    try simp only [Act.put, List.getElem_toArray, List.getElem_cons_succ, List.getElem_cons_zero, List.setIfInBounds_toArray, List.set_cons_zero, List.set_cons_succ]
    refine wpAnyH_take (i := 2) (v := (.pointer (some ⟨bk, 0, none⟩))) rfl (by kernel_rfl) (by kernel_rfl) (by kernel_rfl) (fun _ _ _ h => h) (Or.inl ⟨by rfl, fun wx hx => by go_simp⟩) hT0 ?_
    try dsimp only
    try simp only [Act.put, List.getElem_toArray, List.getElem_cons_succ, List.getElem_cons_zero, List.setIfInBounds_toArray, List.set_cons_zero, List.set_cons_succ]
    refine wpAnyH_take (i := 3) (v := (.pointer (some ⟨bk, 0, none⟩))) rfl (by kernel_rfl) (by kernel_rfl) (by kernel_rfl) (fun _ _ _ h => h) (Or.inl ⟨by rfl, fun wx hx => by go_simp⟩) hT0 ?_
    try dsimp only
    try simp only [Act.put, List.getElem_toArray, List.getElem_cons_succ, List.getElem_cons_zero, List.setIfInBounds_toArray, List.set_cons_zero, List.set_cons_succ]
    refine wpAnyH_take (i := 4) (v := (.pointer (some ⟨bk, 2, none⟩))) rfl (by kernel_rfl) (by kernel_rfl) (by kernel_rfl) (fun _ _ _ h => h) (Or.inl ⟨by rfl, fun wx hx => by go_simp⟩) hT0 ?_
    try dsimp only
    try simp only [Act.put, List.getElem_toArray, List.getElem_cons_succ, List.getElem_cons_zero, List.setIfInBounds_toArray, List.set_cons_zero, List.set_cons_succ]
    refine wpAnyH_take (i := 5) (v := (.int .i64 wid)) rfl (by kernel_rfl) (by kernel_rfl) (by kernel_rfl) (fun _ _ _ h => h) (Or.inl ⟨by rfl, fun wx hx => by have hx1 := hx.2; go_simp⟩) hT0 ?_
    try dsimp only
    try simp only [Act.put, List.getElem_toArray, List.getElem_cons_succ, List.getElem_cons_zero, List.setIfInBounds_toArray, List.set_cons_zero, List.set_cons_succ]
    refine wpAnyH_take (i := 6) (v := (.int .i64 en)) rfl (by kernel_rfl) (by kernel_rfl) (by kernel_rfl) (fun _ _ _ h => h) (Or.inl ⟨by rfl, fun wx hx => by go_simp⟩) hT0 ?_
    try dsimp only
    try simp only [Act.put, List.getElem_toArray, List.getElem_cons_succ, List.getElem_cons_zero, List.setIfInBounds_toArray, List.set_cons_zero, List.set_cons_succ]
    refine wpAnyH_all (rs := [7]) (by kernel_rfl) (by simp) ?_
    intro jj hjj
    simp only [List.mem_cons, List.not_mem_nil, or_false] at hjj
    subst hjj
    refine wpOp_of_wp rfl rfl ?_
    go_simp
    refine (pick_any b en _ hbb.1 hbb.2 (by omega) (by omega)).mono ?_
    rintro e wA ⟨rfl, hwA⟩
    subst hwA
    refine ⟨hT0, ?_⟩
    try dsimp only
    try simp only [Act.put, List.getElem_toArray, List.getElem_cons_succ, List.getElem_cons_zero, List.setIfInBounds_toArray, List.set_cons_zero, List.set_cons_succ]
    refine wpAnyH_take (i := 8) (v := (.int .i64 (pk b en))) rfl (by kernel_rfl) (by kernel_rfl) (by kernel_rfl) (fun _ _ _ h => h) (Or.inl ⟨by rfl, fun wx hx => by go_simp⟩) hT0 ?_
    try dsimp only
    try simp only [Act.put, List.getElem_toArray, List.getElem_cons_succ, List.getElem_cons_zero, List.setIfInBounds_toArray, List.set_cons_zero, List.set_cons_succ]
    refine wpAnyH_done (by kernel_rfl) ?_ _
    clear hT0
    obtain ⟨w4, hw4⟩ : ∃ w4, w4 = w3.drew := ⟨_, rfl⟩
    have hb4 : Below w3.heap.size w3 w4 := by rw [hw4]; exact below_drew
    show Exit.then _ _ Exit.normal _ w3.drew
    rw [← hw4]
    replace o3 := cell_keep hb4 o3
    replace o4 := cell_keep hb4 o4
    have HB4 : Hid (Below w.heap.size w w4) := bnext HB3.out hb4
    clear hw4 hb4 c2 o2
    have HAT : Hid (0 ≤ pk b en ∧ pk b en < 20 * wid) := ⟨hat.1, by have := hat.2; have := HEN.out; omega⟩
    obtain ⟨at', hat'⟩ : ∃ at', at' = pk b en := ⟨_, rfl⟩
    rw [← hat'] at HAT ⊢
    clear hat hat' e20
    go_upto_region 8 with fail
    have hT0 : (fun w' : World => w'.cell? ⟨w.heap.size, 3, none⟩ = some (.string s) ∧ w'.cell? ⟨w.heap.size, 4, none⟩ = some (.int .i32 v)) w4.drew := ⟨o3, o4⟩
    refine wp_region_held (S := fun w' : World => w'.cell? ⟨w.heap.size, 3, none⟩ = some (.string s) ∧ w'.cell? ⟨w.heap.size, 4, none⟩ = some (.int .i32 v)) mixed ?_
    refine wpAnyH_take (i := 0) (v := (.pointer (some ⟨bk, 0, none⟩))) rfl (by kernel_rfl) (by kernel_rfl) (by kernel_rfl) (fun _ _ _ h => h) (Or.inl ⟨by rfl, fun wx hx => by go_simp⟩) hT0 ?_
    try dsimp only
    try simp only [Act.put, List.getElem_toArray, List.getElem_cons_succ, List.getElem_cons_zero, List.setIfInBounds_toArray, List.set_cons_zero, List.set_cons_succ]
    refine wpAnyH_take (i := 1) (v := (.int .i64 k)) rfl (by kernel_rfl) (by kernel_rfl) (by kernel_rfl) (fun _ _ _ h => h) (Or.inl ⟨by rfl, fun wx hx => by go_simp⟩) hT0 ?_
    try dsimp only
    try simp only [Act.put, List.getElem_toArray, List.getElem_cons_succ, List.getElem_cons_zero, List.setIfInBounds_toArray, List.set_cons_zero, List.set_cons_succ]
    refine wpAnyH_take (i := 2) (v := (.int .i64 at')) rfl (by kernel_rfl) (by kernel_rfl) (by kernel_rfl) (fun _ _ _ h => h) (Or.inl ⟨by rfl, fun wx hx => by go_simp⟩) hT0 ?_
    try dsimp only
    try simp only [Act.put, List.getElem_toArray, List.getElem_cons_succ, List.getElem_cons_zero, List.setIfInBounds_toArray, List.set_cons_zero, List.set_cons_succ]
    refine wpAnyH_take (i := 3) (v := (.pointer (some ⟨w.heap.size, 3, none⟩))) rfl (by kernel_rfl) (by kernel_rfl) (by kernel_rfl) (fun _ _ _ h => h) (Or.inl ⟨by rfl, fun wx hx => by go_simp⟩) hT0 ?_
    try dsimp only
    try simp only [Act.put, List.getElem_toArray, List.getElem_cons_succ, List.getElem_cons_zero, List.setIfInBounds_toArray, List.set_cons_zero, List.set_cons_succ]
    refine wpAnyH_take (i := 4) (v := (.string s)) rfl (by kernel_rfl) (by kernel_rfl) (by kernel_rfl) (fun _ _ _ h => h) (Or.inl ⟨by rfl, fun wx hx => by have hx1 := hx.1; go_simp⟩) hT0 ?_
    try dsimp only
    try simp only [Act.put, List.getElem_toArray, List.getElem_cons_succ, List.getElem_cons_zero, List.setIfInBounds_toArray, List.set_cons_zero, List.set_cons_succ]
    refine wpAnyH_take (i := 6) (v := (.pointer (some ⟨w.heap.size, 4, none⟩))) rfl (by kernel_rfl) (by kernel_rfl) (by kernel_rfl) (fun _ _ _ h => h) (Or.inl ⟨by rfl, fun wx hx => by go_simp⟩) hT0 ?_
    try dsimp only
    try simp only [Act.put, List.getElem_toArray, List.getElem_cons_succ, List.getElem_cons_zero, List.setIfInBounds_toArray, List.set_cons_zero, List.set_cons_succ]
    refine wpAnyH_take (i := 7) (v := (.int .i32 v)) rfl (by kernel_rfl) (by kernel_rfl) (by kernel_rfl) (fun _ _ _ h => h) (Or.inl ⟨by rfl, fun wx hx => by have hx1 := hx.2; go_simp⟩) hT0 ?_
    try dsimp only
    try simp only [Act.put, List.getElem_toArray, List.getElem_cons_succ, List.getElem_cons_zero, List.setIfInBounds_toArray, List.set_cons_zero, List.set_cons_succ]
    refine wpAnyH_all (rs := [5]) (by kernel_rfl) (by simp) ?_
    intro jj hjj
    simp only [List.mem_cons, List.not_mem_nil, or_false] at hjj
    subst hjj
    refine wpOp_of_wp rfl rfl ?_
    go_simp
    refine (kshort_any s hs _).mono ?_
    rintro e wA ⟨s', rfl, hs20, hwA⟩
    subst hwA
    refine ⟨hT0, ?_⟩
    try dsimp only
    try simp only [Act.put, List.getElem_toArray, List.getElem_cons_succ, List.getElem_cons_zero, List.setIfInBounds_toArray, List.set_cons_zero, List.set_cons_succ]
    refine wpAnyH_all (rs := [8]) (by kernel_rfl) (by simp) ?_
    intro jj hjj
    simp only [List.mem_cons, List.not_mem_nil, or_false] at hjj
    subst hjj
    refine wpOp_of_wp rfl rfl ?_
    go_simp
    obtain ⟨own2, hown2⟩ : ∃ own2 : Ghost, own2 = fun j => if j = w.heap.size then .arg else own j := ⟨_, rfl⟩
    have HOG : Hid (own2 w.heap.size = .arg) := by unfold Hid; rw [hown2]; exact if_pos rfl
    have HOW : Hid (∀ j, j < w.heap.size → own2 j = own j) := fun j hj => by rw [hown2]; exact if_neg (by omega)
    clear hown2
    refine (king_any SR HP.out.R HP.out.L w4.drew own2 B0 bk bs t wid m D A (HX.out.chg HP.out.R (bnext HB4.out below_drew) HOW.out) (by omega) k (by omega) HKL.out at' HAT.out.1 HAT.out.2 s' hs20 v v0 v1).mono ?_
    rintro e w5 ⟨rfl, hz⟩
    have HZ : Hid (∃ D' A', KN SR B0 bk bs t wid (m + 1) D' A' w own w5 ∧ ((0 : Int) ≠ 2 → (0 : Int) ≠ 3 → Kst D D')) := ⟨_, _, KN.mk (bnext HB4.out below_drew) HOW.out hz, fun _ _ => kst_ing _ _ _ _ _ _ _⟩
    have ng : own2 w.heap.size ≠ .free ∧ ¬ notA (own2 w.heap.size) := by rw [HOG.out]; exact ⟨by simp, fun h => h rfl⟩
    have hT5 : (fun w' : World => w'.cell? ⟨w.heap.size, 3, none⟩ = some (.string s) ∧ w'.cell? ⟨w.heap.size, 4, none⟩ = some (.int .i32 v)) w5 := by
      obtain ⟨_, _, _, hfr⟩ := hz
      exact ⟨cell_fr' hfr o3 ng.1 ng.2, cell_fr' hfr o4 ng.1 ng.2⟩
    clear hz
    refine ⟨hT5, ?_⟩
    try dsimp only
    try simp only [Act.put, List.getElem_toArray, List.getElem_cons_succ, List.getElem_cons_zero, List.setIfInBounds_toArray, List.set_cons_zero, List.set_cons_succ]
    refine wpAnyH_take (i := 9) (v := (.bool true)) rfl (by kernel_rfl) (by kernel_rfl) (by kernel_rfl) (fun _ _ _ h => h) (Or.inl ⟨by rfl, fun wx hx => by go_simp⟩) hT5 ?_
    try dsimp only
    try simp only [Act.put, List.getElem_toArray, List.getElem_cons_succ, List.getElem_cons_zero, List.setIfInBounds_toArray, List.set_cons_zero, List.set_cons_succ]
    refine wpAnyH_done (by kernel_rfl) ?_ _
    clear hT0 hT5 ng
    go_wp2
    go_ret
    exact ⟨rfl, HZ.out⟩
  · go_wp2_with (go_at_call 30; refine (kadv_any SR HP.out.R HP.out.L w3 own B0 bk bs t wid m D A HX3.out (by omega) k (by omega) HKL.out b hbb).mono ?_; rintro e w4 ⟨rfl, tm, _, _, _, hz⟩; have HZ : Hid (∃ D' A', KN SR B0 bk bs t wid (m + 1) D' A' w own w4 ∧ ((1 : Int) ≠ 2 → (1 : Int) ≠ 3 → Kst D D')) := ⟨_, _, (KN.mk HB3.out (fun _ _ => rfl) hz).grow (by omega), fun _ _ => kst_adv _ _ _ _ _⟩; clear hz)
    go_ret
    exact ⟨rfl, HZ.out⟩
  · go_wp2_with (go_at_call 47; refine (ksync_any SR HP.out.R HP.out.S w3 own B0 bk bs t wid m D A HX3.out (by omega) n (by omega)).mono ?_; rintro e w4 ⟨rfl, hz⟩; have HZ : Hid (∃ D' A', KN SR B0 bk bs t wid (m + 1) D' A' w own w4 ∧ ((2 : Int) ≠ 2 → (2 : Int) ≠ 3 → Kst D D')) := ⟨_, _, (KN.mk HB3.out (fun _ _ => rfl) hz).grow (by omega), fun h _ => absurd rfl h⟩; clear hz)
    go_ret
    exact ⟨rfl, HZ.out⟩
  · go_wp2_with (go_at_call 48; refine (kcrash_any SR HP.out.R HP.out.S w3 own B0 bk bs t wid m D A HX3.out (by omega) n (by omega)).mono ?_; rintro e w4 ⟨rfl, hz⟩; have HZ : Hid (∃ D' A', KN SR B0 bk bs t wid (m + 1) D' A' w own w4 ∧ ((3 : Int) ≠ 2 → (3 : Int) ≠ 3 → Kst D D')) := ⟨_, _, (KN.mk HB3.out (fun _ _ => rfl) hz).grow (by omega), fun _ h => absurd rfl h⟩; clear hz)
    go_ret
    exact ⟨rfl, HZ.out⟩
  · go_wp2_with (go_at_call 49; refine (ksend_any SR HP.out.R HP.out.D w3 own B0 bk bs t wid m D A HX3.out (by omega) n (by omega) 0 19 (by decide)).mono ?_; rintro e w4 ⟨rfl, hz⟩; have HZ : Hid (∃ D' A', KN SR B0 bk bs t wid (m + 1) D' A' w own w4 ∧ ((4 : Int) ≠ 2 → (4 : Int) ≠ 3 → Kst D D')) := ⟨_, _, KN.mk HB3.out (fun _ _ => rfl) hz, fun _ _ => Kst.refl D⟩; clear hz)
    go_ret
    exact ⟨rfl, HZ.out⟩
  · go_wp2_with (go_at_call 49; refine (ksend_any SR HP.out.R HP.out.D w3 own B0 bk bs t wid m D A HX3.out (by omega) n (by omega) wq wq (by simp [isRg]; omega)).mono ?_; rintro e w4 ⟨rfl, hz⟩; have HZ : Hid (∃ D' A', KN SR B0 bk bs t wid (m + 1) D' A' w own w4 ∧ ((5 : Int) ≠ 2 → (5 : Int) ≠ 3 → Kst D D')) := ⟨_, _, KN.mk HB3.out (fun _ _ => rfl) hz, fun _ _ => Kst.refl D⟩; clear hz)
    go_ret
    exact ⟨rfl, HZ.out⟩
  · go_wp2_with (go_at_call 50; refine (kbring_any SR HP.out.R HP.out.J w3 own B0 bk bs t wid m D A HX3.out (by omega) b hbb).mono ?_; rintro e w4 ⟨rfl, D', hbr, hz⟩; have HZ : Hid (∃ D' A', KN SR B0 bk bs t wid (m + 1) D' A' w own w4 ∧ ((6 : Int) ≠ 2 → (6 : Int) ≠ 3 → Kst D D')) := ⟨_, _, (KN.mk HB3.out (fun _ _ => rfl) hz).grow (by omega), fun _ _ => kst_br hbr⟩; clear hz)
    go_ret
    exact ⟨rfl, HZ.out⟩
  · go_wp2_with (go_at_call 28; refine (kexact_any SR HP.out.R w3 own B0 bk bs t wid m D A HX3.out (by omega)).mono ?_; rintro e w4 ⟨rfl, hz⟩; have HZ : Hid (∃ D' A', KN SR B0 bk bs t wid (m + 1) D' A' w own w4 ∧ ((7 : Int) ≠ 2 → (7 : Int) ≠ 3 → Kst D D')) := ⟨D, A, (KN.mk HB3.out (fun _ _ => rfl) (KN.same HP.out.R HX3.out hz)).grow (by omega), fun _ _ => Kst.refl D⟩; clear hz)
    go_ret
    exact ⟨rfl, HZ.out⟩
end Go.Proofs.Ytpglbakcjihohaa

/-! A sketch that comes in as an argument is twenty-eight cells, each a number that fits its kind. -/
namespace Go.Proofs.Ytpglbakcjihohaa
open Go.RowKit
set_option maxRecDepth 100000

theorem cellsSk : Try.prog.cellsOf 27 = 28 := by kernel_rfl
theorem cellsU16 : Try.prog.cellsOf 22 = 1 := by kernel_rfl
theorem cellsU32 : Try.prog.cellsOf 23 = 1 := by kernel_rfl
theorem cellsI32 : Try.prog.cellsOf 21 = 1 := by kernel_rfl
theorem cellsU8 : Try.prog.cellsOf 5 = 1 := by kernel_rfl
theorem cellsRegs : Try.prog.cellsOf 24 = 16 := by kernel_rfl
theorem cellsHist : Try.prog.cellsOf 25 = 8 := by kernel_rfl

theorem one_of_drop {cs : List Value} {i : Nat} {v : Value} (h : (cs.drop i).take 1 = [v]) : cs[i]? = some v := by
  have := congrArg (fun l => l[0]?) h
  simpa [List.getElem?_take, List.getElem?_drop] using this

section
variable {H : Type} {enc : TypeId × Value → H} {w : World} {base : Nat} {spare : Nat → Bool} {held : Bool}

/-- One cell of an integer kind. -/
theorem cell_int {fuel : Nat} {t : TypeId} {k : IntKind} {cs : List Value} {i : Nat} {x : DataW H × List MemPlace} (ht : Try.prog.underlying t = some (.int k))
    (h : DataW.trod enc Try.prog w base spare held fuel t ((cs.drop i).take 1) = some x) : ∃ n, cs[i]? = some (.int k n) ∧ (Lit.int k n).wf = true := by
  obtain ⟨n, e, _, hw⟩ := DataW.trod_int ht h
  exact ⟨n, one_of_drop e, hw⟩

/-- A row of bytes from offset o on. -/
theorem cells_bytes {fuel : Nat} {t : TypeId} {m o : Nat} {cs : List Value} {x : DataW H × List MemPlace} (ht : Try.prog.underlying t = some (.array m 5))
    (h : DataW.trod enc Try.prog w base spare held fuel t ((cs.drop o).take m) = some x) :
    ∀ i, i < m → ∃ n, cs[o + i]? = some (.int .u8 n) ∧ (Lit.int .u8 n).wf = true := by
  obtain ⟨xs, f, _, _, _, hlen, hx⟩ := DataW.trod_array ht h
  intro i hi
  have h1 := hx i hi
  rw [cellsU8, Nat.mul_one, List.getElem?_eq_getElem (by omega)] at h1
  obtain ⟨n, e, hw⟩ := cell_int (k := .u8) Try.underlying5 h1
  refine ⟨n, ?_, hw⟩
  rw [List.getElem?_take, if_pos hi, List.getElem?_drop] at e
  exact e

theorem open_sk {fuel : Nat} {cs : List Value} {x : DataW H × List MemPlace} (h : DataW.trod enc Try.prog w base spare held fuel 27 cs = some x) :
    ∃ s : Sk, IsSk cs.toArray s ∧ s.Ok := by
  obtain ⟨xs, n, _, _, hl, hlen, hf⟩ := DataW.trod_struct Try.underlying27 h
  have hlen' : xs.length = 6 := hlen
  rw [cellsSk] at hl
  have g0 : DataW.trod enc Try.prog w base spare held n 22 ((cs.drop 0).take (Try.prog.cellsOf 22)) = xs[0]? := hf 0 _ rfl
  have g1 : DataW.trod enc Try.prog w base spare held n 23 ((cs.drop 1).take (Try.prog.cellsOf 23)) = xs[1]? := hf 1 _ rfl
  have g2 : DataW.trod enc Try.prog w base spare held n 21 ((cs.drop 2).take (Try.prog.cellsOf 21)) = xs[2]? := hf 2 _ rfl
  have g3 : DataW.trod enc Try.prog w base spare held n 21 ((cs.drop 3).take (Try.prog.cellsOf 21)) = xs[3]? := hf 3 _ rfl
  have g4 : DataW.trod enc Try.prog w base spare held n 24 ((cs.drop 4).take (Try.prog.cellsOf 24)) = xs[4]? := hf 4 _ rfl
  have g5 : DataW.trod enc Try.prog w base spare held n 25 ((cs.drop 20).take (Try.prog.cellsOf 25)) = xs[5]? := hf 5 _ rfl
  rw [cellsU16] at g0
  rw [cellsU32] at g1
  rw [cellsI32] at g2 g3
  rw [cellsRegs] at g4
  rw [cellsHist] at g5
  rw [List.getElem?_eq_getElem (by omega)] at g0 g1 g2 g3 g4 g5
  obtain ⟨c, e0, w0⟩ := cell_int (k := .u16) Try.underlying22 g0
  obtain ⟨s, e1, w1⟩ := cell_int (k := .u32) Try.underlying23 g1
  obtain ⟨l, e2, w2⟩ := cell_int (k := .i32) Try.underlying21 g2
  obtain ⟨g, e3, w3⟩ := cell_int (k := .i32) Try.underlying21 g3
  have hr := cells_bytes (o := 4) Try.underlying24 g4
  have hh := cells_bytes (o := 20) Try.underlying25 g5
  clear g0 g1 g2 g3 g4 g5 hf hlen hlen'
  have b0 := bounds_u16 w0
  have b1 := bounds_u32 w1
  have b2 := bounds_i32 w2
  have b3 := bounds_i32 w3
  refine ⟨⟨c, s, l, g, fun k => if k < 16 then intOf (cs.getD (4 + k) undef) else 0, fun k => if k < 8 then intOf (cs.getD (20 + k) undef) else 0⟩, ?_, ?_⟩
  · show cs.toArray = _
    apply Array.ext_getElem?
    intro i
    by_cases hi : i < 28
    · rw [Sk.get _ i hi]
      rw [List.getElem?_toArray]
      by_cases h0 : i = 0
      · subst h0; rw [e0]; rfl
      by_cases h1 : i = 1
      · subst h1; rw [e1]; rfl
      by_cases h2 : i = 2
      · subst h2; rw [e2]; rfl
      by_cases h3 : i = 3
      · subst h3; rw [e3]; rfl
      by_cases h4 : i < 20
      · obtain ⟨n, en, _⟩ := hr (i - 4) (by omega)
        rw [show 4 + (i - 4) = i by omega] at en
        have hx : i - 4 < 16 := by omega
        rw [en]
        simp [Sk.at, h0, h1, h2, h3, h4, hx, show 4 + (i - 4) = i by omega, List.getD, en, intOf]
      · obtain ⟨n, en, _⟩ := hh (i - 20) (by omega)
        rw [show 20 + (i - 20) = i by omega] at en
        have hx : i - 20 < 8 := by omega
        rw [en]
        simp [Sk.at, h0, h1, h2, h3, h4, hx, show 20 + (i - 20) = i by omega, List.getD, en, intOf]
    · rw [Array.getElem?_eq_none (by simp; omega), Array.getElem?_eq_none (by rw [Sk.size_cells]; omega)]
  · have rb : ∀ k, 0 ≤ (if k < 16 then intOf (cs.getD (4 + k) undef) else 0) ∧ (if k < 16 then intOf (cs.getD (4 + k) undef) else 0) ≤ 255 := fun k => by
      split
      · rename_i hk
        obtain ⟨n, en, wn⟩ := hr k hk
        have := bounds_u8 wn
        simp only [List.getD, en, Option.getD_some, intOf]; omega
      · omega
    have hb : ∀ k, 0 ≤ (if k < 8 then intOf (cs.getD (20 + k) undef) else 0) ∧ (if k < 8 then intOf (cs.getD (20 + k) undef) else 0) ≤ 255 := fun k => by
      split
      · rename_i hk
        obtain ⟨n, en, wn⟩ := hh k hk
        have := bounds_u8 wn
        simp only [List.getD, en, Option.getD_some, intOf]; omega
      · omega
    exact ⟨by simp only []; omega, by simp only []; omega, by simp only []; omega, by simp only []; omega, by simp only []; omega, by simp only []; omega, by simp only []; omega, by simp only []; omega, fun k => (rb k).1, fun k => (rb k).2, fun k => (hb k).1, fun k => (hb k).2⟩

/-- The argument, opened. -/
theorem arg_sk {r : Reach} {b0 : Nat} {v : Value} {d : DataW H} {p : List MemPlace} (hv : Value.okWide Try.prog w r b0 27 v) (h : DataW.Trod enc Try.prog w base spare held 27 v d p) :
    ∃ (A : Array Value) (s : Sk), v = .agg A ∧ IsSk A s ∧ s.Ok := by
  obtain ⟨cs, rfl, _⟩ := WideShapes.okWide_struct Try.underlying27 hv
  obtain ⟨fuel, hf⟩ := h
  obtain ⟨s, hs, ok⟩ := open_sk hf
  exact ⟨cs, s, rfl, by simpa [Value.cells] using hs, ok⟩
end
end Go.Proofs.Ytpglbakcjihohaa

/-! A list of numbers and a script of plain steps that come in as arguments, opened: their cells in memory, and that all of them fit. -/
namespace Go.Proofs.Ytpglbakcjihohaa
open Go.RowKit
set_option maxRecDepth 100000

/-! ### Steps -/
structure KSt where
  kind : Int
  a : Int
  b : Int
  key : ByteArray
  v : Int
def KSt.cells (x : KSt) : List Value := [.int .i64 x.kind, .int .i64 x.a, .int .i64 x.b, .string x.key, .int .i32 x.v]
abbrev clKs : Cl KSt := ⟨KSt.cells, 5, by decide, fun _ => rfl, fun _ v hv => by
  simp only [KSt.cells, List.mem_cons, List.not_mem_nil, or_false] at hv
  rcases hv with rfl | rfl | rfl | rfl | rfl <;> rfl⟩
def KSt.arr (x : KSt) : Array Value := #[.int .i64 x.kind, .int .i64 x.a, .int .i64 x.b, .string x.key, .int .i32 x.v]
structure KSt.Ok (x : KSt) : Prop where
  kind : fitsI x.kind
  a : fitsI x.a
  b : fitsI x.b
  key : x.key.size ≤ maxLen
  v0 : -2147483648 ≤ x.v
  v1 : x.v ≤ 2147483647
theorem info_kst : (Try.prog.info? 52).map (·.size) = some 5 := by kernel_rfl
section
variable {ops : Array Oper} {rest : List Oper} {o : Oper} {a : Act} {w : World} {Q : Exit → Act → World → Prop}
theorem load_kst_mid (hgd : o.guard = none) (x : Operand) (ho : o.op = .load 52 x) (g off : Nat) (hx : a.eval x = .pointer (some ⟨g, off, none⟩)) (s : KSt)
    (hg : w.rangeAt g off (clKs.cells s)) (h : wpList Try.prog ops Q rest (a.put o.dst (.agg #[.int .i64 s.kind, .int .i64 s.a, .int .i64 s.b, .string s.key, .int .i32 s.v])) w) : wpList Try.prog ops Q (o :: rest) a w :=
  wpList_step fun K hK => by
    rw [if_pos (by unfold Region.wanted; rw [hgd])]
    have hl := run_loadVar_mid (P := Try.prog) w g off 52 (clKs.cells s) _ hg Try.underlying52 rfl (by rw [Cl.len]; exact info_kst)
    unfold Oper.wp execOp
    simp only [ho, hx, Instr.loadAt, Instr.sureAddr, Sem.run_bind, Sem.run_pure, Result.andThen_ok, hl]
    exact hK _ _ h
end
/-! ### Arguments -/
theorem bulk_pos {H : Type} (d : DataW H) : 1 ≤ Rows.uptoBulk d := by
  cases d with
  | lit l => cases l <;> simp [Rows.uptoBulk]
  | _ => simp [Rows.uptoBulk]
theorem bulk_mem {H : Type} {d : DataW H} {l : List (DataW H)} (h : d ∈ l) : Rows.uptoBulk d ≤ Rows.uptoBulkAll l := by
  induction l with
  | nil => cases h
  | cons y r ih =>
    simp only [Rows.uptoBulkAll]
    rcases List.mem_cons.1 h with e | e
    · subst e; omega
    · have := ih e; omega
theorem bulk_len {H : Type} (l : List (DataW H)) : l.length ≤ Rows.uptoBulkAll l := by
  induction l with
  | nil => simp
  | cons y r ih => have := bulk_pos y; simp only [Rows.uptoBulkAll, List.length_cons]; omega
section
variable {H : Type} {enc : TypeId × Value → H} {w : World}
/-- A slice whose elements are all of one shape. -/
theorem open_rows {α : Type} {C : Cl α} {t e : TypeId} {fuel : Nat} {cs : List Value} {x : DataW H × List MemPlace} (R : DataW H → α → Prop) (ht : Try.prog.underlying t = some (.slice e)) (hc : Try.prog.cellsOf e = C.size)
    (each : ∀ n cs' y, DataW.trod enc Try.prog w 0 (fun _ => true) true n e cs' = some y → ∃ a : α, cs' = C.cells a ∧ R y.1 a) (h : DataW.trod enc Try.prog w 0 (fun _ => true) true fuel t cs = some x) :
    ∃ (p : Option Addr) (n c : Nat) (l : List α), cs = [.slice p n c] ∧ l.length = n ∧ RowsAt C w p l ∧ n ≤ Rows.uptoBulk x.1 ∧ ∀ a ∈ l, ∃ d, R d a ∧ Rows.uptoBulk d ≤ Rows.uptoBulk x.1 := by
  rcases Deep.open_slice ht h with ⟨rfl, rfl⟩ | ⟨a, len, cap, m, n, D, Pl, rfl, hb, hl, hm, hmm, rfl, hx⟩
  · exact ⟨none, 0, 0, [], rfl, rfl, .inl rfl, by simp, fun a ha => by simp at ha⟩
  · simp only [if_true] at hmm
    subst hmm
    rw [hc] at hx
    have each' : ∀ i, i < len → ∃ b : α, w.cells? 0 (a.add (i * C.size)) (C.size) = some (C.cells b) ∧ R (D i) b := fun i hi => by
      obtain ⟨cs', h1, h2⟩ := hx i (by omega)
      obtain ⟨b, rfl, hR⟩ := each _ _ _ h2
      exact ⟨b, h1, hR⟩
    let f : Fin len → α := fun i => Classical.choose (each' i.1 i.2)
    have hf : ∀ (i : Nat) (hi : i < len), w.cells? 0 (a.add (i * C.size)) (C.size) = some (C.cells (f ⟨i, hi⟩)) ∧ R (D i) (f ⟨i, hi⟩) := fun i hi => Classical.choose_spec (each' i hi)
    have hle : Rows.uptoBulkAll ((List.range len).map D) ≤ Rows.uptoBulk (DataW.slice ((List.range len).map D) ((List.range (m - len)).map fun j => D (len + j))) := by simp only [Rows.uptoBulk]; omega
    refine ⟨some a, len, m, List.ofFn f, rfl, by simp, ?_, ?_, fun b hb => ?_⟩
    · by_cases h0 : len = 0
      · left; subst h0; rfl
      · right
        obtain ⟨b, off, spot⟩ := a
        have h1 := (World.cells?_some (hf 0 (by omega)).1).2.2 0 (Cl.pos (C := C))
        obtain ⟨v0, hv0⟩ : ∃ v0, (C.cells (f ⟨0, by omega⟩) : List Value)[0]? = some v0 := ⟨_, List.getElem?_eq_getElem (by rw [Cl.len (f ⟨0, by omega⟩)]; exact Cl.pos (C := C))⟩
        rw [hv0] at h1
        have hspot : spot = none := by simpa [Addr.add] using World.cell?_spot h1
        subst hspot
        have hbl : b < w.heap.size := by have := block_lt_of_cell h1; simpa [Addr.add] using this
        refine ⟨b, off, rfl, hbl, fun i y hy j v hv => ?_⟩
        obtain ⟨hi, e⟩ := List.getElem?_eq_some_iff.1 hy
        have hi' : i < len := by simpa using hi
        have ey : f ⟨i, hi'⟩ = y := by rw [← e]; simp
        have hj : j < C.size := by rw [← Cl.len y]; exact (List.getElem?_eq_some_iff.1 hv).1
        have h2 := (World.cells?_some (hf i hi').1).2.2 j hj
        rw [ey, hv, Addr.add_mid, Addr.add_mid] at h2
        exact h2
    · have h1 := bulk_len ((List.range len).map D)
      rw [List.length_map, List.length_range] at h1
      exact Nat.le_trans h1 hle
    · obtain ⟨i, hi⟩ := List.getElem?_of_mem hb
      obtain ⟨hi1, e⟩ := List.getElem?_eq_some_iff.1 hi
      have hi' : i < len := by simpa using hi1
      refine ⟨D i, ?_, Nat.le_trans (bulk_mem (List.mem_map.2 ⟨i, by simpa using hi', rfl⟩)) hle⟩
      have ey : f ⟨i, hi'⟩ = b := by rw [← e]; simp
      rw [← ey]; exact (hf i hi').2
theorem cellsInt : Try.prog.cellsOf 3 = 1 := by kernel_rfl
theorem cellsKst : Try.prog.cellsOf 52 = 5 := by kernel_rfl
theorem cellsStr' : Try.prog.cellsOf 9 = 1 := by kernel_rfl
theorem cell_str {fuel : Nat} {cs : List Value} {i : Nat} {x : DataW H × List MemPlace} (h : DataW.trod enc Try.prog w 0 (fun _ => true) true fuel 9 ((cs.drop i).take 1) = some x) : ∃ s : ByteArray, cs[i]? = some (.string s) ∧ s.size ≤ maxLen := by
  obtain ⟨n, e, _, hn⟩ := DataW.trod_string Try.underlying9 h
  exact ⟨n, one_of_drop e, hn⟩
theorem list4 {cs : List Value} {a b c d : Value} (h0 : cs[0]? = some a) (h1 : cs[1]? = some b) (h2 : cs[2]? = some c) (h3 : cs[3]? = some d) : cs = a :: b :: c :: d :: cs.drop 4 := by
  match cs, h0, h1, h2, h3 with
  | [], h0, _, _, _ => simp at h0
  | [_], _, h1, _, _ => simp at h1
  | [_, _], _, _, h2, _ => simp at h2
  | [_, _, _], _, _, _, h3 => simp at h3
  | w :: x :: y :: z :: r, h0, h1, h2, h3 => simp at h0 h1 h2 h3 ⊢; exact ⟨h0, h1, h2, h3⟩
theorem open_num {fuel : Nat} {cs : List Value} {y : DataW H × List MemPlace} (h : DataW.trod enc Try.prog w 0 (fun _ => true) true fuel 3 cs = some y) : ∃ a : Int, cs = clInt.cells a ∧ fitsI a := by
  obtain ⟨n, e, _, hw⟩ := DataW.trod_int Try.underlying3 h
  exact ⟨n, e, bounds_i64 hw⟩
theorem open_kstep {fuel : Nat} {cs : List Value} {y : DataW H × List MemPlace} (h : DataW.trod enc Try.prog w 0 (fun _ => true) true fuel 52 cs = some y) : ∃ a : KSt, cs = clKs.cells a ∧ a.Ok := by
  obtain ⟨xs, n, _, hy, hl, hlen, hf⟩ := DataW.trod_struct Try.underlying52 h
  have hlen' : xs.length = 5 := hlen
  rw [cellsKst] at hl
  have g0 : DataW.trod enc Try.prog w 0 (fun _ => true) true n 3 ((cs.drop 0).take (Try.prog.cellsOf 3)) = xs[0]? := hf 0 _ rfl
  have g1 : DataW.trod enc Try.prog w 0 (fun _ => true) true n 3 ((cs.drop 1).take (Try.prog.cellsOf 3)) = xs[1]? := hf 1 _ rfl
  have g2 : DataW.trod enc Try.prog w 0 (fun _ => true) true n 3 ((cs.drop 2).take (Try.prog.cellsOf 3)) = xs[2]? := hf 2 _ rfl
  have g3 : DataW.trod enc Try.prog w 0 (fun _ => true) true n 9 ((cs.drop 3).take (Try.prog.cellsOf 9)) = xs[3]? := hf 3 _ rfl
  have g4 : DataW.trod enc Try.prog w 0 (fun _ => true) true n 21 ((cs.drop 4).take (Try.prog.cellsOf 21)) = xs[4]? := hf 4 _ rfl
  rw [cellsInt] at g0 g1 g2
  rw [cellsStr'] at g3
  rw [cellsI32] at g4
  rw [List.getElem?_eq_getElem (by omega)] at g0 g1 g2 g3 g4
  obtain ⟨a0, e0, w0⟩ := cell_int (k := .i64) Try.underlying3 g0
  obtain ⟨a1, e1, w1⟩ := cell_int (k := .i64) Try.underlying3 g1
  obtain ⟨a2, e2, w2⟩ := cell_int (k := .i64) Try.underlying3 g2
  obtain ⟨a3, e3, w3⟩ := cell_str g3
  obtain ⟨a4, e4, w4⟩ := cell_int (k := .i32) Try.underlying21 g4
  refine ⟨⟨a0, a1, a2, a3, a4⟩, ?_, ⟨bounds_i64 w0, bounds_i64 w1, bounds_i64 w2, w3, (bounds_i32 w4).1, (bounds_i32 w4).2⟩⟩
  rw [list4 e0 e1 e2 e3]
  have hd : cs.drop 4 = [.int .i32 a4] := by
    have h4 : (cs.drop 4)[0]? = some (.int .i32 a4) := by simpa [List.getElem?_drop] using e4
    have hlen4 : (cs.drop 4).length = 1 := by simp; omega
    match hc : cs.drop 4, h4, hlen4 with
    | [z], h4, _ => simpa using h4
  rw [hd]; rfl
/-- Numbers, opened. -/
theorem arg_ints {r : Reach} {b0 : Nat} {v : Value} {d : DataW H} {p : List MemPlace} (hv : Value.okWide Try.prog w r b0 46 v) (h : DataW.Trod enc Try.prog w 0 (fun _ => true) true 46 v d p) :
    ∃ (a : Option Addr) (n c : Nat) (l : List Int), v = .slice a n c ∧ l.length = n ∧ RowsAt clInt w a l ∧ n ≤ Rows.uptoBulk d ∧ ∀ x ∈ l, fitsI x := by
  obtain ⟨a, n, cap, rfl⟩ := WideShapes.okWide_slice Try.underlying46 hv
  obtain ⟨fuel, hf⟩ := h
  obtain ⟨a', n', c', l, e, h1, h2, h3, h4⟩ := open_rows (C := clInt) (fun _ a => fitsI a) Try.underlying46 cellsInt (fun _ _ _ h => open_num h) hf
  simp [Value.cells] at e
  obtain ⟨rfl, rfl, rfl⟩ := e
  exact ⟨_, _, _, l, rfl, h1, h2, h3, fun x hx => (h4 x hx).elim fun _ h => h.1⟩
/-- A script, opened. -/
theorem arg_kscript {r : Reach} {b0 : Nat} {v : Value} {d : DataW H} {p : List MemPlace} (hv : Value.okWide Try.prog w r b0 47 v) (h : DataW.Trod enc Try.prog w 0 (fun _ => true) true 47 v d p) :
    ∃ (a : Option Addr) (n c : Nat) (l : List KSt), v = .slice a n c ∧ l.length = n ∧ RowsAt clKs w a l ∧ n ≤ Rows.uptoBulk d ∧ ∀ x ∈ l, x.Ok := by
  obtain ⟨a, n, cap, rfl⟩ := WideShapes.okWide_slice Try.underlying47 hv
  obtain ⟨fuel, hf⟩ := h
  obtain ⟨a', n', c', l, e, h1, h2, h3, h4⟩ := open_rows (C := clKs) (fun _ a => a.Ok) Try.underlying47 cellsKst (fun _ _ _ h => open_kstep h) hf
  simp [Value.cells] at e
  obtain ⟨rfl, rfl, rfl⟩ := e
  exact ⟨_, _, _, l, rfl, h1, h2, h3, fun x hx => (h4 x hx).elim fun _ h => h.1⟩
end
end Go.Proofs.Ytpglbakcjihohaa

/-! A store is opened; a run's first state. -/
namespace Go.Proofs.Ytpglbakcjihohaa
open Go.RowKit
set_option maxRecDepth 100000

set_option maxHeartbeats 2000000 in
theorem kopened_any (SR : SRT) (R : PR SR) (t : List Int) (hT : Tree t) (wid : Int) (h0 : 1 ≤ wid) (h1 : wid ≤ 1000) (p : Option Addr) (n c : Nat) (w : World) (hn : t.length = n) (hr : RowsAt clInt w p t) :
    Calls Try.prog 44 #[.slice p n c, .int .i64 wid] w fun e w' => Below w.heap.size w w' ∧ ∃ bs, e = .returned (.pointer (some ⟨bs, 0, none⟩)) ∧ ∀ (own : Ghost) (B0 : Nat), B0 ≤ w.heap.size → ∃ own', SR w' own' B0 bs t wid (List.replicate t.length Nd.zero) ∧ Same w own own' := by
  have h8 := hT.le
  have HRW : Hid (RowsAt clInt w p t) := hr
  have HR : Hid (PR SR) := R
  have HE : Hid (newE t wid = 0) := by unfold Hid newE; rw [if_pos ((isTr_iff t).2 hT), if_pos (by simp [isWid]; omega)]
  clear hr R
  go_enter Try.func44, Try.ntmps44
  go_wp2_with (first | (go_at_call 68; refine (kcopied_any t p n c _ hn HRW.out (by omega)).mono ?_; rintro e w1 ⟨q, cc, rfl, hr1, _, hb1⟩; have HR1 : Hid (RowsAt clInt w1 q t) := hr1; have HB1 : Hid (Below w.heap.size w w1) := hb1; clear hr1 hb1) | (go_at_call 69; refine (HR.out.new t _ n _ wid w1 hn HR1.out (by omega) ⟨by omega, by omega⟩).mono ?_; rintro e w2 ⟨hb2, h2⟩; obtain ⟨_, bs, rfl, hsr⟩ := h2.resolve_right (fun x => x.1 HE.out); have HS : Hid (∀ (own : Ghost) (B0 : Nat), B0 ≤ w1.heap.size → ∃ own', SR w2 own' B0 bs t wid (List.replicate t.length Nd.zero) ∧ Same w1 own own') := hsr; have HB2 : Hid (Below w1.heap.size w1 w2) := hb2; clear h2 hsr hb2))
  go_ret
  have hs1 := HB1.out.size
  refine ⟨bnext HB1.out HB2.out, bs, rfl, fun own B0 hB => ?_⟩
  obtain ⟨own', a1, a2⟩ := HS.out own B0 (by omega)
  exact ⟨own', a1, fun k hk hf => a2 k (by omega) hf⟩
/-! ### A run begins -/
def SrcC.zero : SrcC := ⟨fun _ => ⟨none, 0, 0⟩, fun _ => 0, fun _ => false, fun _ => false, 0, 0⟩
theorem zeros_src : ((Try.prog.info? 85).bind (·.zero)).map (·.cells.toList) = some (clSrc.cells SrcC.zero) := by kernel_rfl
theorem rep_get' {k N : Nat} {d : Nd} (h : (List.replicate N Nd.zero)[k]? = some d) : d = Nd.zero := by
  obtain ⟨hk, e⟩ := List.getElem?_eq_some_iff.1 h
  rw [← e]; simp
theorem evK_nil (k : Int) : evK [] k = [] := rfl
theorem kbeg_done {SR : SRT} (R : PR SR) {t : List Int} (hT : Tree t) {wid : Int} (h0 : 1 ≤ wid) (h1 : wid ≤ 1000) {w w1 w2 w3 : World} {vt : Sl} {bs : Nat} (o1 : Own clInt w1 w.heap.size 3 vt.val t) (b1 : Below w.heap.size w w1) (hsr : ∀ (own : Ghost) (B0 : Nat), B0 ≤ w1.heap.size → ∃ own', SR w2 own' B0 bs t wid (List.replicate t.length Nd.zero) ∧ Same w1 own own') (b2 : Below w1.heap.size w1 w2) {n : Nat} (hn : t.length = n)
    (o3 : Own clSrc w3 w2.heap.size 85 (.slice (some ⟨w2.heap.size, 0, none⟩) n n) (List.replicate n SrcC.zero)) (g3 : w2.grownBy w3 none) :
    ∃ own', KX SR w.heap.size w3.heap.size bs t wid 0 (List.replicate t.length Nd.zero) [] (w3.alloc (.cells #[.pointer (some ⟨bs, 0, none⟩), vt.val, .int .i64 wid, .slice (some ⟨w2.heap.size, 0, none⟩) n n, .slice none 0 0] 60)) own' ∧ (∀ k, k < w.heap.size → own' k = .arg) := by
  have s1 := b1.size
  have s2 := b2.size
  have s3 := g3.size
  obtain ⟨wz, hwz⟩ : ∃ wz, wz = w3.alloc (.cells #[.pointer (some ⟨bs, 0, none⟩), vt.val, .int .i64 wid, .slice (some ⟨w2.heap.size, 0, none⟩) n n, .slice none 0 0] 60) := ⟨_, rfl⟩
  have bz : Below w3.heap.size w3 wz := by rw [hwz]; exact below_alloc _ _
  have b3 : Below w2.heap.size w2 w3 := grown_below g3 _ (Nat.le_refl _) (fun _ h => by cases h)
  have gz : wz.heap[w3.heap.size]? = some (.cells #[.pointer (some ⟨bs, 0, none⟩), vt.val, .int .i64 wid, .slice (some ⟨w2.heap.size, 0, none⟩) n n, .slice none 0 0] 60) := by rw [hwz]; exact heap_alloc_new _ _
  rw [← hwz]
  obtain ⟨own2, hs2, sm2⟩ := hsr (fun k => if vt.val.ownBlock = some k then .wd 0 else if k < w.heap.size then .arg else .free) w.heap.size s1
  have hlt : ∀ k, vt.val.ownBlock = some k → w.heap.size ≤ k ∧ k < w1.heap.size := fun k hk => o1.lt k hk
  have ho2 : ∀ k, vt.val.ownBlock = some k → own2 k = .wd 0 := fun k hk => by
    have := sm2 k (hlt k hk).2 (by simp only [if_pos hk]; simp)
    rw [this]; simp only [if_pos hk]
  have ha2 : ∀ k, k < w.heap.size → own2 k = .arg := fun k hk => by
    have hne : vt.val.ownBlock ≠ some k := fun e => by have := (hlt k e).1; omega
    have := sm2 k (by omega) (by simp only [if_neg hne, if_pos hk]; simp)
    rw [this]; simp only [if_neg hne, if_pos hk]
  let own3 : Ghost := fun k => if k = w2.heap.size then .wd 1 else if k = w3.heap.size then .gm else own2 k
  have hlt3 : w2.heap.size < w3.heap.size := (o3.lt w2.heap.size rfl).2
  have e3 : ∀ k, k < w2.heap.size → own3 k = own2 k := fun k hk => by simp only [own3]; rw [if_neg (by omega), if_neg (by omega)]
  have f3 : ∀ S : Tag → Prop, Fr own2 S w2 wz := fun S => Fr.of_below (bnext b3 bz)
  refine ⟨own3, ⟨vt, ⟨some ⟨w2.heap.size, 0, none⟩, n, n⟩, ⟨none, 0, 0⟩, List.replicate n SrcC.zero, [], hT, h0, h1, gz, ?_, ?_, R.chg hs2 (f3 (fun _ => False)) (fun k hk _ => e3 k hk) (fun _ h => h), ?_, ?_, ?_, ?_, by simp [hn], fun k c d hc hd => ?_, Own.nil _ _ _, (fun k hk => by cases hk), rfl, (fun i x p hx => by simp at hx), inv_zero t, fun k d hk => ?_, fun k d hk => ?_, by simp⟩, fun k hk => ?_⟩
  · simp only [own3]; rw [if_neg (by omega), if_pos trivial]
  · have := bz.size; omega
  · exact ((o1.below b2).below b3).below bz
  · intro k hk; rw [e3 k (by have := (hlt k hk).2; omega)]; exact ho2 k hk
  · exact (o3.mono (by omega)).below bz
  · intro k hk; obtain rfl : w2.heap.size = k := Option.some.inj hk; simp only [own3]; rw [if_pos trivial]
  · obtain ⟨hk, ec⟩ := List.getElem?_eq_some_iff.1 hc
    rw [rep_get' hd, ← ec]
    simp only [List.getElem_replicate]
    exact ⟨fun v _ => Own.nil _ _ _, (fun v _ k hk => by cases hk), fun v _ => rfl, fun v _ => rfl, fun v _ => rfl, rfl, rfl⟩
  · rw [rep_get' hk]; exact ⟨by simp [Nd.zero], by simp [Nd.zero], Good.nil, Good.nil⟩
  · rw [rep_get' hk]; exact ⟨(fun i e he => by simp [Nd.zero] at he), (fun i e he => by simp [Nd.zero] at he), by simp [Nd.zero], by simp [Nd.zero]; omega, by simp [Nd.zero], by simp [Nd.zero]; omega⟩
  · rw [e3 k (by omega)]; exact ha2 k hk
end Go.Proofs.Ytpglbakcjihohaa

/-! A run begins. -/
namespace Go.Proofs.Ytpglbakcjihohaa
open Go.RowKit
set_option maxRecDepth 100000

def widK (x : Int) : Int := 1 + pk x 1000
set_option maxHeartbeats 4000000 in
theorem kbegan_any (SR : SRT) (R : PR SR) (raw : List Int) (hf : ∀ x ∈ raw, fitsI x) (p : Option Addr) (n c : Nat) (wd : Int) (hwd : fitsI wd) (w : World) (hn : raw.length = n) (hr : RowsAt clInt w p raw) (hm : n ≤ 1000000000) :
    Calls Try.prog 26 #[.slice p n c, .int .i64 wd] w fun e w' => Below w.heap.size w w' ∧ ∃ bk bs own', e = .returned (.pointer (some ⟨bk, 0, none⟩)) ∧ KX SR w.heap.size bk bs (trK raw) (widK wd) 0 (List.replicate (trK raw).length Nd.zero) [] w' own' ∧ ∀ k, k < w.heap.size → own' k = .arg := by
  have HRW : Hid (RowsAt clInt w p raw) := hr
  have HR : Hid (PR SR) := R
  have HF : Hid (∀ x ∈ raw, fitsI x) := hf
  have HT : Hid (Tree (trK raw)) := trK_tree raw
  have h8 := (trK_tree raw).le
  obtain ⟨N, hN⟩ : ∃ N, (trK raw).length = N := ⟨_, rfl⟩
  have HN : Hid ((trK raw).length = N) := hN
  have hN8 : N ≤ 8 := by omega
  have hpk := pk_bd wd 1000 (by omega)
  have hW0 : 1 ≤ widK wd ∧ widK wd ≤ 1000 := by unfold widK; omega
  have ew : IntKind.i64.wrap (1 + pk wd 1000) = widK wd := IntWalk.i64_in _ ⟨by omega, by omega⟩
  obtain ⟨W, hW⟩ : ∃ W, W = widK wd := ⟨_, rfl⟩
  rw [← hW] at ew hW0 ⊢
  clear hr R hf hN hW
  go_enter Try.func26, Try.ntmps26
  go_wp2_with (first | (go_at_call 43; refine (ktree_any raw HF.out p n c _ hn HRW.out (by omega)).mono ?_; rintro e w1 ⟨v1, rfl, ho1, hb1⟩; obtain ⟨q, cc, rfl⟩ : ∃ q cc, v1 = .slice q N cc := (by obtain ⟨p', c', e, _⟩ := ho1.form; exact ⟨p', c', by rw [e, HN.out]⟩); have HO1 : Hid (Own clInt w1 w.heap.size 3 (.slice q N cc) (trK raw)) := ho1; have HB1 : Hid (Below w.heap.size w w1) := hb1; clear ho1 hb1) | (go_at_call 24; refine (pick_any wd 1000 _ hwd.1 hwd.2 (by omega) (by omega)).mono ?_; rintro e wA ⟨rfl, hwA⟩; have hwA := hwA.symm; subst hwA) | (go_at_call 44; refine (kopened_any SR HR.out (trK raw) HT.out W hW0.1 hW0.2 q N cc w1 HN.out (Own.sl (s := ⟨q, N, cc⟩) HO1.out).2).mono ?_; rintro e w2 ⟨hb2, bs, rfl, hsr⟩; have HS : Hid (∀ (own : Ghost) (B0 : Nat), B0 ≤ w1.heap.size → ∃ own', SR w2 own' B0 bs (trK raw) W (List.replicate (trK raw).length Nd.zero) ∧ Same w1 own own') := hsr; have HB2 : Hid (Below w1.heap.size w1 w2) := hb2; clear hsr hb2) | (refine wpList_make_cl rfl _ _ _ _ 696 slSrc rfl SrcC.zero zeros_src w2.heap.size N _ rfl rfl (by rfl) (by simp only [maxLen]; omega) (by omega) (Nat.le_refl _) ?_; intro w3 ho3 hg3; have HO3 : Hid (Own clSrc w3 w2.heap.size 85 (.slice (some ⟨w2.heap.size, 0, none⟩) N N) (List.replicate N SrcC.zero)) := ho3; have HG3 : Hid (w2.grownBy w3 none) := hg3; clear ho3 hg3))
  go_ret
  obtain ⟨own', a1, a2⟩ := kbeg_done HR.out HT.out hW0.1 hW0.2 (vt := ⟨q, N, cc⟩) HO1.out HB1.out HS.out HB2.out HN.out HO3.out HG3.out
  exact ⟨bnext (bnext (bnext HB1.out HB2.out) (grown_below HG3.out _ (Nat.le_refl _) (fun _ h => by cases h))) (below_alloc _ _), _, bs, own', rfl, a1, a2⟩
end Go.Proofs.Ytpglbakcjihohaa

/-! The statements that play plain steps: the walk of a script; Exact. -/
namespace Go.Proofs.Ytpglbakcjihohaa
open Go.RowKit
set_option maxRecDepth 100000

/-- A run behind i steps; all that was there when it began is as it was. -/
def KP (SR : SRT) (t : List Int) (wid : Int) (w : World) (bk bs m : Nat) (D : List Nd) (A : List (Int × List It)) (wr : World) : Prop := ∃ own', KX SR w.heap.size bk bs t wid m D A wr own' ∧ (∀ k, k < w.heap.size → own' k = .arg) ∧ Below w.heap.size w wr
theorem KP.bel {SR : SRT} {t : List Int} {wid : Int} {w wr : World} {bk bs m : Nat} {D : List Nd} {A : List (Int × List It)} (h : KP SR t wid w bk bs m D A wr) : Below w.heap.size w wr := by
  obtain ⟨_, _, _, h⟩ := h; exact h
theorem KP.next {SR : SRT} {t : List Int} {wid : Int} {w wr w2 : World} {bk bs m' : Nat} {D' : List Nd} {A' : List (Int × List It)} {own' : Ghost} (ha : ∀ k, k < w.heap.size → own' k = .arg) (hb : Below w.heap.size w wr) (h : KN SR w.heap.size bk bs t wid m' D' A' wr own' w2) : KP SR t wid w bk bs m' D' A' w2 := by
  obtain ⟨own2, g, s, f⟩ := h
  have hs := hb.size
  refine ⟨own2, g, fun k hk => ?_, f.os.trans hb.os, f.tape.trans hb.tape, f.output.trans hb.output, Nat.le_trans hs f.size, fun k hk => ?_⟩
  · rw [s k (by omega) (by rw [ha k hk]; simp)]; exact ha k hk
  · rw [f.block k (by omega) (by rw [ha k hk]; simp) (by rw [ha k hk]; simp [notA])]; exact hb.block k hk
theorem KP.step {SR : SRT} {t : List Int} {wid : Int} {w wr w2 : World} {bk bs m : Nat} {D : List Nd} {A : List (Int × List It)} (R : PR SR) (h : KP SR t wid w bk bs m D A wr) (hb : Below wr.heap.size wr w2) : KP SR t wid w bk bs m D A w2 := by
  obtain ⟨own', g, a, b⟩ := h
  exact ⟨own', g.below R hb, a, bnext b hb⟩
set_option maxHeartbeats 4000000 in
theorem kExact_any (SR : SRT) (P : PA SR) (raw : List Int) (hf : ∀ x ∈ raw, fitsI x) (p : Option Addr) (n c : Nat) (wd : Int) (hwd : fitsI wd) (ps : Option Addr) (sn sc : Nat) (steps : List KSt) (w : World) (hn : raw.length = n) (hr : RowsAt clInt w p raw) (hm : n ≤ 1048576) (hs : steps.length = sn) (hrs : RowsAt clKs w ps steps) (hsm : sn ≤ 1048576) (hok : ∀ x ∈ steps, x.Ok) :
    Calls Try.prog 8 #[.slice p n c, .int .i64 wd, .slice ps sn sc] w fun e w' => e = .returned (.bool true) ∧ Below w.heap.size w w' := by
  have HP : Hid (PA SR) := P
  have H : Hid ((∀ x ∈ raw, fitsI x) ∧ RowsAt clInt w p raw ∧ RowsAt clKs w ps steps ∧ ∀ x ∈ steps, x.Ok) := ⟨hf, hr, hrs, hok⟩
  clear P hf hr hrs hok
  go_enter Try.func8, Try.ntmps8
  go_wp2_with (go_at_call 26; refine (kbegan_any SR HP.out.R raw H.out.1 p n c wd hwd w hn H.out.2.1 (by omega)).mono ?_; rintro e w1 ⟨hb1, bk, bs, own1, rfl, hk1, ha1⟩; have HK : Hid (KP SR (trK raw) (widK wd) w bk bs 0 (List.replicate (trK raw).length Nd.zero) [] w1) := ⟨own1, hk1, ha1, hb1⟩; clear hk1 ha1 hb1)
  go_loopw [8] (fun i wr => ∃ (k : Nat) (D : List Nd) (A : List (Int × List It)), k ≤ sn ∧ i = .int .i64 k ∧ KP SR (trK raw) (widK wd) w bk bs k D A wr) (fun i _ => sn - (intOf i).toNat)
  case atStart => exact ⟨0, _, _, by omega, rfl, HK.out⟩
  case round =>
    obtain ⟨k, D, A, hk, rfl, hkp⟩ := hrel
    obtain ⟨own', hx, ha, hb⟩ := hkp
    have HX : Hid (KX SR w.heap.size bk bs (trK raw) (widK wd) k D A wr own' ∧ (∀ k, k < w.heap.size → own' k = .arg) ∧ Below w.heap.size w wr) := ⟨hx, ha, hb⟩
    clear hx ha hb
    by_cases hlk : k < sn
    · obtain ⟨gp, op, rfl, hgp, hrg⟩ := H.out.2.2.1.pos k (by omega)
      obtain ⟨x, hx⟩ : ∃ x, steps[k]? = some x := ⟨_, List.getElem?_eq_getElem (by omega)⟩
      have HRG : Hid (wr.rangeAt gp (op + k * 5) (clKs.cells x)) := range_below HX.out.2.2 hgp (hrg k x hx)
      have HO : Hid x.Ok := H.out.2.2.2 x (List.mem_of_getElem? hx)
      clear hx hrg
      go_wp2_with (first | (refine load_kst_mid rfl _ rfl _ _ rfl x (by exact HRG.out) ?_) | (go_at_call 27; refine (kstep_any SR HP.out wr own' w.heap.size bk bs (trK raw) (widK wd) k D A HX.out.1 (by omega) x.kind x.a x.b x.key x.v HO.out.kind HO.out.a HO.out.b HO.out.key HO.out.v0 HO.out.v1).mono ?_; rintro e w2 ⟨rfl, D', A', hn', _⟩; have HN : Hid (KP SR (trK raw) (widK wd) w bk bs (k + 1) D' A' w2) := KP.next HX.out.2.1 HX.out.2.2 hn'; clear hn'))
      go_roundw
      case rel => exact ⟨k + 1, D', A', by omega, by go_num, HN.out⟩
      case measure => simp [intOf]; omega
    · go_wp2_with (go_at_call 28; refine (kexact_any SR HP.out.R wr own' w.heap.size bk bs (trK raw) (widK wd) k D A HX.out.1 (by omega)).mono ?_; rintro e w2 ⟨rfl, hb2⟩; have HB : Hid (Below w.heap.size w w2) := bnext HX.out.2.2 hb2; clear hb2)
      go_ret
      exact ⟨rfl, HB.out⟩
theorem sr_pa : PA SR := ⟨sr_pr, sr_pl, sr_ps, sr_pd, sr_pj2⟩
end Go.Proofs.Ytpglbakcjihohaa
