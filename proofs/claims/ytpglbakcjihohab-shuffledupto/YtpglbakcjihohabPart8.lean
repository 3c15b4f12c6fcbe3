/-
  Own texts, laid together: What a run begins with; what 'fold' answers for every list of events. A run looks at an item: it is the sketch of just the first events of its leaf. A leaf has an item of just the windows in which it has taken something in, or which are closed. The sketch of all events of all leaves in some windows. What the root calls sealed is the sketch of all events of those windows; once the root has every leaf's last item it calls them sealed (no program is named here). A run looks at all that is known: every item is as it must be, every leaf has its own, what is sealed is all. A key cut short. One step of a run. Rounds: with each of them what the leaves know comes one node further up (no program is named here). What all nodes show: a look, and two looks held against one another.
-/
import Derived.Test.YtpglbakcjihohabRows
import Derived.StillTailTactics
import Derived.BigQuiet
import Derived.Test.YtpglbakcjihohabPart7
set_option linter.unusedSimpArgs false
set_option linter.unusedVariables false
set_option linter.deprecated false
/-! What a run begins with; what 'fold' answers for every list of events. -/
namespace Go.Proofs.Ytpglbakcjihohab
open Go.RowKit
set_option maxRecDepth 100000

/-- The events l lie where the slice leads. -/
def KEvs (w : World) (a : Option Addr) (l : List Ev) : Prop :=
  AllOk l ∧ (l = [] ∨ ∃ b off, a = some ⟨b, off, none⟩ ∧ b < w.heap.size ∧ ∀ i (h : i < l.length), w.cell? ⟨b, off + i * 2, none⟩ = some (.string l[i].key) ∧ w.cell? ⟨b, off + i * 2 + 1, none⟩ = some (.int .i32 l[i].v))
theorem KEvs.below {w w' : World} {a : Option Addr} {l : List Ev} (h : KEvs w a l) (hb : Below w.heap.size w w') : KEvs w' a l := by
  refine ⟨h.1, ?_⟩
  rcases h.2 with h | ⟨b, off, ha, hlt, hc⟩
  · exact .inl h
  · refine .inr ⟨b, off, ha, Nat.lt_of_lt_of_le hlt hb.size, fun i hi => ?_⟩
    obtain ⟨c1, c2⟩ := hc i hi
    exact ⟨by rw [hb.cell (p := ⟨b, off + i * 2, none⟩) hlt]; exact c1, by rw [hb.cell (p := ⟨b, off + i * 2 + 1, none⟩) hlt]; exact c2⟩

section
variable {ops : Array Oper} {rest : List Oper} {o : Oper} {a : Act} {w : World} {Q : Act → Prop}
theorem still_load_sk' (hw : Region.wanted o (yielded ops a.tmps) = true) (x : Operand) (ho : o.op = .load 59 x) (g : Nat) (hx : a.eval x = .pointer (some ⟨g, 0, none⟩)) (A : Array Value) (s : Sk) (hA : IsSk A s)
    (hg : w.heap[g]? = some (.cells A 59)) (h : wpStill Try.prog ops w Q rest (a.put o.dst (.agg A))) : wpStill Try.prog ops w Q (o :: rest) a :=
  wpStill_step fun _ hK => by
    rw [if_pos hw]
    unfold Oper.still execOp
    simp only [ho, hx, Instr.loadAt, Instr.sureAddr, Sem.run_bind, Sem.run_pure, Result.andThen_ok, run_loadVar_row w g _ _ A (0, 0) _ hg Try.underlying59 rfl (info_sk hA), Oper.stillUpon]
    exact ⟨trivial, hK _ h⟩
end

set_option maxHeartbeats 1000000 in
set_option maxRecDepth 100000 in
theorem kfold_any (l : List Ev) (a : Option Addr) (n cap : Nat) (w : World) (hn : l.length = n) (he : KEvs w a l) (hm : n ≤ maxLen) :
    Calls Try.prog 74 #[.slice a n cap] w fun e w' => ∃ M, e = .returned (.agg M) ∧ IsSk M (F l) ∧ Below w.heap.size w w' := by
  unfold maxLen at hm
  obtain ⟨hok, he⟩ := he
  rcases he with rfl | ⟨b, off, rfl, hlt, hcell⟩
  · obtain rfl : n = 0 := hn.symm
    clear hn
    go_enter Try.func74, Try.ntmps74
    go_wp2_with (first | (refine alloc_sk rfl rfl ?_; intro Z hZ) | (go_at_call 75; refine (tempty_any _).mono ?_; rintro e w1 ⟨E, rfl, hE, hb⟩; have gZ := keep hb (heap_alloc_new w _); have HZ := hZ.size; have HB := bnext (below_alloc _ _) hb; clear hb) | (refine store_sk_new rfl _ _ rfl E _ _ rfl rfl (by rfl) hE hZ ?_))
    refine wp_loop_once ?_
    go_wp2_with (first | (refine load_sk rfl _ rfl _ rfl _ _ hE (by exact heap_alloc_new _ _) ?_) | (refine store_sk rfl _ _ rfl E _ rfl rfl hE (by exact blk_old gZ) HZ ?_))
    exact bodyPost_ret (results_sk rfl _ _ _ E _ hE rfl (setRow_blk (blk_old gZ))) rfl ⟨E, rfl, hE, below_setRow _ (bnext HB (below_alloc _ _)) (Nat.le_refl _)⟩
  · go_enter Try.func74, Try.ntmps74
    go_wp2_with (first | (refine alloc_sk rfl rfl ?_; intro Z hZ) | (go_at_call 75; refine (tempty_any _).mono ?_; rintro e w1 ⟨E, rfl, hE, hb⟩; have gZ := keep hb (heap_alloc_new w _); have HZ := hZ.size; have HB := bnext (below_alloc _ _) hb; clear hb; obtain ⟨Y, hY⟩ : ∃ Y, Y = Z := ⟨_, rfl⟩; rw [← hY] at gZ HZ; clear hY hZ) | (refine store_sk_new rfl _ _ rfl E _ _ rfl rfl (by rfl) hE hZ ?_))
    have hlt1 := lt_of_blk gZ
    go_loopw [4] (fun i wr => ∃ (k : Nat) (M : Array Value), k ≤ n ∧ i = .int .i64 k ∧ IsSk M (F (l.take k)) ∧ Below w.heap.size w wr ∧ wr.heap[w.heap.size]? = some (.cells Y 59) ∧ wr.heap[w1.heap.size]? = some (.cells M 59)) (fun i _ => n - (intOf i).toNat)
    case atStart => exact ⟨0, E, by omega, rfl, hE, bnext HB (below_alloc _ _), blk_old gZ, heap_alloc_new _ _⟩
    case round =>
      clear hE
      obtain ⟨k, M, hk, rfl, hM, hB, gY, gM⟩ := hrel
      have okk := F_ok _ (hok.take k)
      by_cases hlk : k < n
      · obtain ⟨c1, c2⟩ := hcell k (by omega)
        have hev := hok l[k] (List.getElem_mem (by omega))
        have hstep := F_take l k (by omega)
        obtain ⟨⟨key, v⟩, hx⟩ : ∃ e : Ev, e = l[k] := ⟨_, rfl⟩
        rw [← hx] at c1 c2 hev hstep
        clear hx
        have d1 : wr.cell? ⟨b, off + k * 2, none⟩ = some (.string key) := by rw [hB.cell (p := ⟨b, off + k * 2, none⟩) hlt]; exact c1
        have d2 : wr.cell? ⟨b, off + k * 2 + 1, none⟩ = some (.int .i32 v) := by rw [hB.cell (p := ⟨b, off + k * 2 + 1, none⟩) hlt]; exact c2
        have HS : Hid (F (l.take (k + 1)) = mrg (F (l.take k)) (one key.data.toList v)) := hstep
        have l0 := hev.len
        have v0 := hev.v0
        have v1 := hev.v1
        clear c1 c2 hev hstep
        go_wp2
        refine wp_region_still_tail 11 mixed (by kernel_rfl) ?_
        simp only [List.take_succ_cons, List.take_zero, List.drop_succ_cons, List.drop_zero]
        refine still_load_sk' (by rfl) _ rfl _ rfl M _ hM (by exact gM) ?_
        repeat still_step
        refine wpStill_nil ?_
        go_wp2_with fail
        refine (tadd_any _ M hM okk key v _ l0 v0 v1).mono ?_
        rintro e w2 ⟨R, rfl, hR, hb⟩
        have hb' : Below wr.heap.size wr w2 := ⟨hb.os, hb.tape, hb.output, hb.size, hb.block⟩
        replace gY := keep hb' gY
        replace gM := keep hb' gM
        replace hB := bnext hB hb'
        clear hb hb'
        rw [← HS.out] at hR
        go_wp2_with (refine store_sk rfl _ _ rfl R _ rfl rfl hR (by exact gM) hM.size ?_)
        go_roundw
        case rel => exact ⟨k + 1, R, by omega, by go_num, hR, below_setRow _ hB (Nat.le_of_lt hlt1), setRow_oth (by omega) gY, setRow_blk gM⟩
        case measure => simp [intOf]; omega
      · obtain rfl : k = n := by omega
        rw [List.take_of_length_le (by omega)] at hM
        go_wp2_with (first | (refine load_sk rfl _ rfl _ rfl M _ hM (by exact gM) ?_) | (refine store_sk rfl _ _ rfl M _ rfl rfl hM (by exact gY) HZ ?_))
        exact bodyPost_ret (results_sk rfl _ _ _ M _ hM rfl (setRow_blk gY)) rfl ⟨M, rfl, hM, below_setRow _ hB (Nat.le_refl _)⟩
theorem kevs_rows {w : World} {p : Option Addr} {l : List Ev} (h : RowsAt clE w p l) (hok : AllOk l) : KEvs w p l := by
  refine ⟨hok, ?_⟩
  rcases h with h | ⟨b, off, ha, hlt, hc⟩
  · exact .inl h
  · refine .inr ⟨b, off, ha, hlt, fun i hi => ?_⟩
    have h1 := hc i l[i] (List.getElem?_eq_getElem hi)
    exact ⟨h1 0 _ rfl, h1 1 _ rfl⟩
theorem skOf_F (l : List Ev3) : skOf l = F (l.map evOf) := by
  suffices H : ∀ (l : List Ev3) (s : Sk), l.foldl (fun s e => mrg s (one e.key.data.toList e.v)) s = Fgo s (l.map evOf) from H l _
  intro l
  induction l with
  | nil => intro s; rfl
  | cons e l ih => intro s; exact ih _
theorem evK_allok {l : List Ev3} (h : EvOk l) (k : Int) : AllOk ((evK l k).map evOf) := fun e he => by
  obtain ⟨x, hx, rfl⟩ := List.mem_map.1 he
  obtain ⟨i, hi⟩ := List.getElem?_of_mem (List.mem_filter.1 hx).1
  have := h i x hi
  exact ⟨this.key, this.v0, this.v1⟩
end Go.Proofs.Ytpglbakcjihohab

/-! A run looks at an item: it is the sketch of just the first events of its leaf. -/
namespace Go.Proofs.Ytpglbakcjihohab
open Go.RowKit
set_option maxRecDepth 100000

/-- An item anywhere, of the living events of its leaf. -/
structure ItIs (t : List Int) (D : List Nd) (x : It) : Prop where
  l0 : 0 ≤ x.leaf
  l1 : x.leaf < t.length
  w0 : 0 ≤ x.win
  w1 : x.win < 20
  v0 : 0 ≤ x.ver
  of : ∃ d, D[x.leaf.toNat]? = some d ∧ x.ver ≤ ((evK d.lev x.win).length : Int) ∧ x.sk = skOf ((evK d.lev x.win).take x.ver.toNat) ∧ (x.fin = true → d.lcl x.win.toNat = true ∧ x.ver = ((evK d.lev x.win).length : Int))
theorem Xct.is {t : List Int} {D : List Nd} {A : List (Int × List It)} (h : Inv t D A) {x : It} (hx : Xct t D x) : ItIs t D x := by
  obtain ⟨d, h1, h2, h3, h4⟩ := hx.of
  have hn := nd_nat hx.nd
  have hv := hx.v0
  obtain ⟨r, hr⟩ := h.pre _ d h1
  refine ⟨by omega, by omega, hx.w0, hx.w1, hx.v0, d, h1, ?_, ?_, fun hf => ?_⟩
  · rw [hr, evK_app, List.length_append]; omega
  · rw [hr, evK_app, List.take_append_of_le_length (by omega)]; exact h3
  · obtain ⟨e1, e2⟩ := h4 hf
    have hw : ((x.win.toNat : Nat) : Int) = x.win := by have := hx.w0; omega
    obtain ⟨e3, e4⟩ := h.cl _ d h1 x.win.toNat (by have := hx.w1; have := hx.w0; omega) e1
    rw [hw] at e4
    exact ⟨e3, by rw [e4]; exact e2⟩
/-- All items that a node shows are so. -/
theorem lvAt_is {t : List Int} {D : List Nd} {A : List (Int × List It)} (h : Inv t D A) (k : Nat) (hk : k < t.length) (x : It) (hx : x ∈ lvAt t D k) : ItIs t D x := by
  have hnd : isNd t k = true := by simp [isNd]; omega
  unfold lvAt at hx
  rw [if_pos hnd] at hx
  have hd : D[k]? = some (D[k]'(by have := h.ld; omega)) := List.getElem?_eq_getElem _
  obtain ⟨d, hde⟩ : ∃ d, d = D[k]'(by have := h.ld; omega) := ⟨_, rfl⟩
  rw [← hde] at hd
  simp only [Int.toNat_natCast, hd, Option.map_some, Option.getD_some] at hx
  unfold lvg at hx
  split at hx
  · unfold known knownTo at hx
    obtain ⟨v, hv, rfl⟩ := List.mem_map.1 hx
    have hv20 : v < 20 := by have := (List.mem_filter.1 hv).1; simpa using this
    refine ⟨by simp [itOf], by simp [itOf]; omega, by simp [itOf], by simp [itOf]; omega, by simp [itOf], d, by simpa [itOf] using hd, by simp [itOf], by simp [itOf], fun hf => ⟨by simpa [itOf] using hf, by simp [itOf]⟩⟩
  · exact (h.it k d hd x (.inl hx)).1.is h
theorem ItIs.nat {t : List Int} {D : List Nd} {x : It} (h : ItIs t D x) : ∃ lf wn vr : Nat, x.leaf = lf ∧ x.win = wn ∧ x.ver = vr ∧ lf < t.length ∧ wn < 20 ∧ ∃ d, D[lf]? = some d ∧ vr ≤ (evK d.lev wn).length ∧ x.sk = skOf ((evK d.lev wn).take vr) ∧ (x.fin = true → d.lcl wn = true ∧ vr = (evK d.lev wn).length) := by
  obtain ⟨d, h1, h2, h3, h4⟩ := h.of
  have e1 : x.leaf = (x.leaf.toNat : Nat) := by have := h.l0; omega
  have e3 : x.ver = (x.ver.toNat : Nat) := by have := h.v0; omega
  have b1 := h.l1
  have b2 := h.w1
  have b0 := h.w0
  obtain ⟨wn, e2⟩ : ∃ wn : Nat, x.win = wn := ⟨x.win.toNat, by omega⟩
  rw [e2] at h2 h3 h4
  rw [Int.toNat_natCast] at h4
  refine ⟨_, _, _, e1, e2, e3, by omega, by omega, d, h1, by omega, h3, fun hf => ⟨?_, ?_⟩⟩
  · exact (h4 hf).1
  · have := (h4 hf).2; omega
theorem below_N (w : World) (n : Nat) : Below w.heap.size w (w.drewN n) := ⟨rfl, rfl, rfl, Nat.le_refl _, fun _ _ => rfl⟩
set_option maxHeartbeats 8000000 in
theorem kitem_any (SR : SRT) (w : World) (own : Ghost) (B0 bk bs : Nat) (t : List Int) (wid : Int) (m : Nat) (D : List Nd) (A : List (Int × List It)) (hg : KX SR B0 bk bs t wid m D A w own) (hm : m < 100000000) (x : It) (X : Array Value) (hX : IsIt X x) (hok : x.Ok) (hx : ItIs t D x) :
    Calls Try.prog 61 #[.pointer (some ⟨bk, 0, none⟩), .agg X] w fun e w' => e = .returned (.bool true) ∧ Below w.heap.size w w' := by
  obtain ⟨vt, vs, vl, C, PK, g⟩ := hg
  obtain ⟨gs, cs, rfl⟩ := g.src
  obtain ⟨lf, wn, vr, e1, e2, e3, hlf, hwn, d, hd, hvr, hsk, hfin⟩ := hx.nat
  obtain ⟨c, d', hc, hd', rep, nb⟩ := g.at lf hlf
  rw [hd] at hd'; cases hd'
  have h8 := g.T.le
  have hso : Own clSrc w B0 87 (.slice (some ⟨gs, 0, none⟩) t.length cs) C := g.so
  obtain ⟨N, hN⟩ : ∃ N, t.length = N := ⟨_, rfl⟩
  obtain ⟨⟨tp, tn, tc⟩, hvt⟩ : ∃ v0 : Sl, v0 = vt := ⟨_, rfl⟩
  have htr : t.length = tn := by have := g.tr; rw [← hvt] at this; exact (Own.sl (s := ⟨tp, tn, tc⟩) this).1
  have c1 : w.cell? ⟨bk, 1, none⟩ = some (.slice tp N tc) := by rw [cell_of_row _ _ _ _ _ _ g.run, ← hvt, ← hN, htr]; rfl
  have c3 : w.cell? ⟨bk, 3, none⟩ = some (.slice (some ⟨gs, 0, none⟩) N cs) := by rw [cell_of_row _ _ _ _ _ _ g.run, ← hN]; rfl
  obtain ⟨fb, hfb⟩ : ∃ fb, d.lcl wn = fb := ⟨_, rfl⟩
  have cq : w.cell? ⟨gs, lf * 82 + 40 + wn, none⟩ = some (.bool fb) := by
    rw [Nat.add_assoc, ← hfb, ← rep.cl wn hwn]
    exact hso.cell_at lf c hc (40 + wn) _ (by show c.cells[40 + wn]? = _; rw [c.get _ (by omega), c.at_cl wn hwn])
  obtain ⟨⟨ep, en, ec⟩, hsl⟩ : ∃ s, s = c.ev wn := ⟨_, rfl⟩
  have cev : w.cell? ⟨gs, lf * 82 + wn, none⟩ = some (.slice ep en ec) := hso.cell_at lf c hc wn _ (by show c.cells[wn]? = _; rw [c.get _ (by omega), c.at_ev wn hwn, ← hsl])
  have hev : ((evK d.lev wn).map evOf).length = en ∧ RowsAt clE w ep ((evK d.lev wn).map evOf) := by have := rep.ev wn hwn; rw [← hsl] at this; exact Own.sl (s := ⟨ep, en, ec⟩) this
  have hcap : en ≤ ec := by
    have := rep.ev wn hwn; rw [← hsl] at this
    obtain ⟨p', c', e, hle, _⟩ := this.form
    simp only [Sl.val] at e
    injection e with e1 e2 e3
    omega
  have hen : (evK d.lev wn).length = en := by simpa using hev.1
  have hlen : en ≤ m := by rw [← hen]; exact Nat.le_trans (evK_len _ _) (g.di lf d hd).1
  have hve : vr ≤ en := by omega
  have HEV : Hid (RowsAt clE w ep (((evK d.lev wn).map evOf).take vr)) := hev.2.take vr
  have HOK : Hid (AllOk (((evK d.lev wn).map evOf).take vr)) := (evK_allok nb.lev wn).take vr
  have HL : Hid ((((evK d.lev wn).map evOf).take vr).length = vr) := by unfold Hid; simp; omega
  have HSK : Hid (F (((evK d.lev wn).map evOf).take vr) = x.sk) := by unfold Hid; rw [hsk, skOf_F, List.map_take]
  have hfin2 : x.fin = true → fb = true ∧ vr = en := fun h => by have := hfin h; exact ⟨by rw [← hfb]; exact this.1, by omega⟩
  have hgsw : gs < w.heap.size := (hso.lt gs rfl).2
  have hbk := lt_of_blk g.run
  have hskok := hok.sk
  have m0 : X[0]? = some (.int .i64 lf) := by rw [hX.get0, e1]
  have m1 : X[1]? = some (.int .i64 wn) := by rw [hX.get1, e2]
  have m2 : X[2]? = some (.int .i64 vr) := by rw [hX.get2, e3]
  obtain ⟨ff, hff⟩ : ∃ ff, x.fin = ff := ⟨_, rfl⟩
  have m3 : X[3]? = some (.bool ff) := by rw [hX.get3, hff]
  rw [hff] at hfin2
  have HX : Hid (IsIt X x) := hX
  have hNl : lf < N := by omega
  clear g rep nb hd hc hso hsl hev hsk hfin hfb hff hX hvt htr e1 e2 e3 hx
  have d1 : decide ((lf : Int) < 0) = false := by simp
  have d2 : decide ((N : Int) ≤ (lf : Int)) = false := by simp; omega
  have d3 : decide ((wn : Int) < 0) = false := by simp
  have d4 : decide ((20 : Int) ≤ (wn : Int)) = false := by simp; omega
  have d5 : decide ((vr : Int) < 0) = false := by simp
  have d6 : decide ((en : Int) < (vr : Int)) = false := by simp; omega
  go_enter Try.func61, Try.ntmps61
  go_upto_region 1 with fail
  obtain ⟨w1, hw1⟩ : ∃ w1, w1 = w.alloc (.cells X 80) := ⟨_, rfl⟩
  have hb1 : Below w.heap.size w w1 := by rw [hw1]; exact below_alloc _ _
  have G1 : w1.heap[w.heap.size]? = some (.cells X 80) := by rw [hw1]; exact heap_alloc_new _ _
  rw [← hw1]
  have x0 : w1.cell? ⟨w.heap.size, 0, none⟩ = some (.int .i64 lf) := by rw [cell_of_row _ _ _ _ _ _ G1]; exact m0
  have x1 : w1.cell? ⟨w.heap.size, 1, none⟩ = some (.int .i64 wn) := by rw [cell_of_row _ _ _ _ _ _ G1]; exact m1
  have x2 : w1.cell? ⟨w.heap.size, 2, none⟩ = some (.int .i64 vr) := by rw [cell_of_row _ _ _ _ _ _ G1]; exact m2
  have x3 : w1.cell? ⟨w.heap.size, 3, none⟩ = some (.bool ff) := by rw [cell_of_row _ _ _ _ _ _ G1]; exact m3
  replace c1 := cell_keep hb1 c1
  replace c3 := cell_keep hb1 c3
  replace cq := cell_keep hb1 cq
  replace cev := cell_keep hb1 cev
  have HG1 : Hid (w1.heap[w.heap.size]? = some (.cells X 80)) := G1
  have HB1 : Hid (Below w.heap.size w w1) := hb1
  clear G1 hb1 hw1 m0 m1 m2 m3
  go_quiet (fail)
  go_upto_region 3 with fail
  go_quiet (fail)
  go_upto_region 7 with (first | (go_at_call 74; refine (kfold_any _ _ vr _ _ HL.out (kevs_rows ((HEV.out.below HB1.out).below (below_N _ _)) HOK.out) (by simp only [maxLen]; omega)).mono ?_; rintro e w2 ⟨M, rfl, hM, hb2⟩; rw [HSK.out] at hM; have HM : Hid (IsSk M x.sk) := hM; have HB2 : Hid (Below w1.heap.size w1 w2) := ⟨hb2.os, hb2.tape, hb2.output, hb2.size, hb2.block⟩; clear hb2) | (refine alloc_sk rfl rfl ?_; intro Z hZ) | (refine store_sk_new rfl _ _ rfl M _ _ rfl rfl (by rfl) hM hZ ?_))
  rename World => w2
  obtain ⟨w3, hw3⟩ : ∃ w3, w3 = w2.alloc (.cells M 59) := ⟨_, rfl⟩
  have hb3 : Below w1.heap.size w1 w3 := by rw [hw3]; exact bnext HB2.out (below_alloc _ _)
  have G3 : w3.heap[w2.heap.size]? = some (.cells M 59) := by rw [hw3]; exact heap_alloc_new _ _
  rw [← hw3]
  replace x0 := cell_keep hb3 x0
  replace x1 := cell_keep hb3 x1
  replace x2 := cell_keep hb3 x2
  replace x3 := cell_keep hb3 x3
  replace c3 := cell_keep hb3 c3
  replace cq := cell_keep hb3 cq
  have HG3 : Hid (w3.heap[w2.heap.size]? = some (.cells M 59)) := G3
  have HX3 : Hid (w3.rangeAt w.heap.size 4 x.sk.cells.toList) := HX.out.range4 (keep hb3 HG1.out)
  have HB3 : Hid (Below w.heap.size w w3) := bnext HB1.out hb3
  clear G3 hb3 hw3 hM
  clear c1 cev
  try dsimp only
  try simp only [Act.put, List.getElem_toArray, List.getElem_cons_succ, List.getElem_cons_zero, List.setIfInBounds_toArray, List.set_cons_zero, List.set_cons_succ]
  cases ff with
  | false =>
    clear cq c3
    go_quiet (fail)
    go_wp2_with (first | (refine load_sk rfl _ rfl _ rfl M _ HM.out (by exact HG3.out) ?_) | (refine load_sk_mid rfl _ rfl _ 4 rfl x.sk (by exact HX3.out) ?_; intro S hS; have hSM : S = M := hS.trans HM.out.symm; subst hSM) | (refine eql_sk_g (by rfl) _ _ _ rfl _ _ HM.out hskok rfl rfl ?_))
    go_ret
    exact ⟨rfl, bnext HB3.out (below_N _ _)⟩
  | true =>
    obtain ⟨rfl, rfl⟩ := hfin2 rfl
    have d7 : ((vr : Int) == (vr : Int)) = true := by simp
    go_quiet (fail)
    go_wp2_with (first | (refine load_sk rfl _ rfl _ rfl M _ HM.out (by exact HG3.out) ?_) | (refine load_sk_mid rfl _ rfl _ 4 rfl x.sk (by exact HX3.out) ?_; intro S hS; have hSM : S = M := hS.trans HM.out.symm; subst hSM) | (refine eql_sk_g (by rfl) _ _ _ rfl _ _ HM.out hskok rfl rfl ?_))
    go_ret
    exact ⟨rfl, bnext HB3.out (below_N _ _)⟩
end Go.Proofs.Ytpglbakcjihohab

/-! A leaf has an item of just the windows in which it has taken something in, or which are closed. -/
namespace Go.Proofs.Ytpglbakcjihohab
open Go.RowKit
set_option maxRecDepth 100000

theorem knownTo_le (n : Int) (l : List Ev3) (cl : Nat → Bool) (j : Nat) : (knownTo n l cl j).length ≤ j := by
  have := List.length_filter_le (has l cl) (List.range j)
  simpa [knownTo] using this
theorem known_pre (n : Int) (l : List Ev3) (cl : Nat → Bool) (j : Nat) (hj : j ≤ 20) : ∃ r, known n l cl = knownTo n l cl j ++ r := by
  have e : ∀ k, ∃ r, knownTo n l cl (j + k) = knownTo n l cl j ++ r := fun k => by
    induction k with
    | zero => exact ⟨[], by simp⟩
    | succ k ih =>
      obtain ⟨r, hr⟩ := ih
      cases h : has l cl (j + k) with
      | false => exact ⟨r, by rw [← Nat.add_assoc, knownTo_no _ _ _ _ h, hr]⟩
      | true => exact ⟨r ++ [itOf n l cl (j + k)], by rw [← Nat.add_assoc, knownTo_yes _ _ _ _ h, hr, List.append_assoc]⟩
  have := e (20 - j)
  rw [show j + (20 - j) = 20 by omega] at this
  exact this
theorem known_at (n : Int) (l : List Ev3) (cl : Nat → Bool) (j : Nat) (hj : j < 20) (h : has l cl j = true) : (known n l cl)[(knownTo n l cl j).length]? = some (itOf n l cl j) ∧ (knownTo n l cl (j + 1)).length = (knownTo n l cl j).length + 1 := by
  obtain ⟨r, hr⟩ := known_pre n l cl (j + 1) (by omega)
  refine ⟨?_, by rw [knownTo_yes _ _ _ _ h]; simp⟩
  rw [hr, knownTo_yes _ _ _ _ h, List.append_assoc, List.getElem?_append_right (Nat.le_refl _)]
  simp
set_option maxHeartbeats 8000000 in
theorem kowns_any (SR : SRT) (R : PR SR) (w : World) (own : Ghost) (B0 bk bs : Nat) (t : List Int) (wid : Int) (m : Nat) (D : List Nd) (A : List (Int × List It)) (hg : KX SR B0 bk bs t wid m D A w own) (hm : m < 100000000) (k : Nat) (hk : k < t.length) (hlf : isLf t k = true) (p : Option Addr) (ln lc : Nat) (hln : (lvAt t D k).length = ln) (hr : RowsAt clIt w p (lvAt t D k)) :
    Calls Try.prog 62 #[.pointer (some ⟨bk, 0, none⟩), .int .i64 k, .slice p ln lc] w fun e w' => e = .returned (.bool true) ∧ Below w.heap.size w w' := by
  obtain ⟨vt, vs, vl, C, PK, g⟩ := hg
  obtain ⟨gs, cs, rfl⟩ := g.src
  obtain ⟨c, d, hc, hd, rep, nb⟩ := g.at k hk
  have h8 := g.T.le
  have hso : Own clSrc w B0 87 (.slice (some ⟨gs, 0, none⟩) t.length cs) C := g.so
  obtain ⟨N, hN⟩ : ∃ N, t.length = N := ⟨_, rfl⟩
  have hnd : isNd t k = true := by simp [isNd]; omega
  have hlv : lvAt t D k = known k d.lev d.lcl := by unfold lvAt; rw [if_pos hnd]; simp only [Int.toNat_natCast, hd, Option.map_some, Option.getD_some]; unfold lvg; rw [if_pos hlf]
  have hwm : wmAt t D k = d.lmk := by unfold wmAt wrg; rw [if_pos hnd, if_pos hlf]; simp [hd]
  rw [hlv] at hln hr
  have HWM : Hid (wmAt t D k = d.lmk) := hwm
  have HG : Hid (KD SR w own B0 bk bs t wid m D vt ⟨some ⟨gs, 0, none⟩, t.length, cs⟩ vl C PK A) := g
  have HR : Hid (PR SR) := R
  have HRW : Hid (RowsAt clIt w p (known k d.lev d.lcl)) := hr
  have HLN : Hid ((known k d.lev d.lcl).length = ln) := hln
  have HSRC : Hid (C[k]? = some c ∧ SrcRep w own B0 k c d ∧ Own clSrc w B0 87 (.slice (some ⟨gs, 0, none⟩) t.length cs) C) := ⟨hc, rep, hso⟩
  have C0 : Hid (w.cell? ⟨bk, 0, none⟩ = some (.pointer (some ⟨bs, 0, none⟩))) := by unfold Hid; rw [cell_of_row _ _ _ _ _ _ g.run]; rfl
  have C3 : Hid (w.cell? ⟨bk, 3, none⟩ = some (.slice (some ⟨gs, 0, none⟩) N cs)) := by unfold Hid; rw [cell_of_row _ _ _ _ _ _ g.run, ← hN]; rfl
  have CM : Hid (w.cell? ⟨gs, k * 82 + 80, none⟩ = some (.int .i64 d.lmk)) := by
    unfold Hid; rw [← rep.mark]
    exact hso.cell_at k c hc 80 _ (by show c.cells[80]? = _; rw [c.get _ (by omega), c.at_mark])
  have hln20 : ln ≤ 20 := by rw [← hln]; exact knownTo_le _ _ _ _
  have k0 : (0 : Int) ≤ (k : Int) := by omega
  have k1 : (k : Int) < (N : Int) := by omega
  have HLV : Hid (d.lev.length ≤ m) := (g.di k d hd).1
  clear g R hr hln hc hd rep nb hso hlv hwm
  go_enter Try.func62, Try.ntmps62
  go_wp2
  go_loopw [7, 8] (fun q i wr => ∃ j : Nat, j ≤ 20 ∧ i = .int .i64 j ∧ q = .int .i64 (knownTo k d.lev d.lcl j).length ∧ Below w.heap.size w wr) (fun _ i _ => 20 - (intOf i).toNat)
  case atStart => exact ⟨0, by omega, rfl, rfl, Below.refl _ _⟩
  case round =>
    obtain ⟨j, hj, rfl, rfl, hb⟩ := hrel
    have c0 := cell_keep hb C0.out
    have c3 := cell_keep hb C3.out
    have cm := cell_keep hb CM.out
    have HB : Hid (Below w.heap.size w wr) := hb
    by_cases hlj : j < 20
    · obtain ⟨fb, hfb⟩ : ∃ fb, d.lcl j = fb := ⟨_, rfl⟩
      have cq : wr.cell? ⟨gs, k * 82 + 40 + j, none⟩ = some (.bool fb) := by
        refine cell_keep hb ?_
        rw [Nat.add_assoc, ← hfb, ← HSRC.out.2.1.cl j hlj]
        exact HSRC.out.2.2.cell_at k c HSRC.out.1 (40 + j) _ (by show c.cells[40 + j]? = _; rw [c.get _ (by omega), c.at_cl j hlj])
      obtain ⟨⟨ep, en, ec⟩, hsl⟩ : ∃ s, s = c.ev j := ⟨_, rfl⟩
      have cev : wr.cell? ⟨gs, k * 82 + j, none⟩ = some (.slice ep en ec) := cell_keep hb (HSRC.out.2.2.cell_at k c HSRC.out.1 j _ (by show c.cells[j]? = _; rw [c.get _ (by omega), c.at_ev j hlj, ← hsl]))
      have hen : (evK d.lev j).length = en := by have h1 := HSRC.out.2.1.ev j hlj; rw [← hsl] at h1; have := (Own.sl (s := ⟨ep, en, ec⟩) h1).1; simpa using this
      have hem : en ≤ m := by rw [← hen]; exact Nat.le_trans (evK_len _ _) HLV.out
      have j0 : (0 : Int) ≤ (j : Int) := by omega
      have j1 : (j : Int) < 20 := by omega
      cases hh : has d.lev d.lcl j with
      | false =>
        have h2 : en = 0 ∧ fb = false := by
          unfold has at hh
          simp only [Bool.or_eq_false_iff, decide_eq_false_iff_not] at hh
          exact ⟨by omega, by rw [← hfb]; exact hh.2⟩
        obtain ⟨rfl, rfl⟩ := h2
        have HX : Hid (knownTo k d.lev d.lcl (j + 1) = knownTo k d.lev d.lcl j) := knownTo_no _ _ _ _ hh
        clear hh hfb hen hsl hb cm c0
        go_wp2
        go_roundw
        case rel => exact ⟨j + 1, by omega, by go_num, by rw [HX.out], HB.out⟩
        case measure => simp [intOf]; omega
      | true =>
        obtain ⟨hat, hnx⟩ := known_at (k : Int) d.lev d.lcl j hlj hh
        obtain ⟨q, hq⟩ : ∃ q, (knownTo k d.lev d.lcl j).length = q := ⟨_, rfl⟩
        rw [hq] at hat hnx ⊢
        have hql : q < ln := by have := (List.getElem?_eq_some_iff.1 hat).1; have := HLN.out; omega
        obtain ⟨gp, op, rfl, hgp, hrg⟩ := HRW.out.pos q (by have := HLN.out; omega)
        have rg : wr.rangeAt gp (op + q * 32) (itOf k d.lev d.lcl j).cells := range_below hb hgp (hrg q _ hat)
        have y0 : wr.cell? ⟨gp, op + q * 32, none⟩ = some (.int .i64 k) := rg 0 _ rfl
        have y1 : wr.cell? ⟨gp, op + q * 32 + 1, none⟩ = some (.int .i64 j) := rg 1 _ rfl
        have y2 : wr.cell? ⟨gp, op + q * 32 + 2, none⟩ = some (.int .i64 en) := by rw [rg 2 _ rfl, ← hen]; rfl
        have y3 : wr.cell? ⟨gp, op + q * 32 + 3, none⟩ = some (.bool fb) := by rw [rg 3 _ rfl, ← hfb]; rfl
        have HX : Hid ((knownTo k d.lev d.lcl (j + 1)).length = q + 1) := hnx
        have q0 : (0 : Int) ≤ (q : Int) := by omega
        have q1 : (q : Int) < (ln : Int) := by omega
        have d1 : decide ((ln : Int) ≤ (q : Int)) = false := by simp; omega
        have hgo : en = 0 → fb = true := fun e => by
          unfold has at hh
          rw [hfb] at hh
          cases fb with
          | true => rfl
          | false => simp at hh; omega
        clear hh hfb hen hsl hb cm c0 hat hnx hrg rg hq
        by_cases hz : en = 0
        · subst hz
          obtain rfl := hgo rfl
          clear hgo
          go_upto_region 7 with fail
          go_quiet (fail)
          go_wp2
          go_roundw
          case rel => exact ⟨j + 1, by omega, by go_num, by rw [HX.out]; go_num, bnext HB.out (below_N _ _)⟩
          case measure => simp [intOf]; omega
        · have hz' : ((en : Int) == 0) = false := by simp; omega
          clear hgo
          cases fb with
          | true =>
            go_upto_region 7 with fail
            go_quiet (fail)
            go_wp2
            go_roundw
            case rel => exact ⟨j + 1, by omega, by go_num, by rw [HX.out]; go_num, bnext HB.out (below_N _ _)⟩
            case measure => simp [intOf]; omega
          | false =>
            go_upto_region 7 with fail
            go_quiet (fail)
            go_wp2
            go_roundw
            case rel => exact ⟨j + 1, by omega, by go_num, by rw [HX.out]; go_num, bnext HB.out (below_N _ _)⟩
            case measure => simp [intOf]; omega
    · obtain rfl : j = 20 := by omega
      have hql : (knownTo k d.lev d.lcl 20).length = ln := HLN.out
      rw [hql]
      clear hb
      go_wp2_with (go_at_call 31; refine (HR.out.mark wr own B0 bs t wid D (HR.out.below' HG.out.st HB.out) (HG.out.di.mono' (by omega)) k ⟨by omega, by omega⟩).mono ?_; rintro e w2 ⟨rfl, hb2⟩; rw [HWM.out]; replace c3 := cell_keep hb2 c3; replace cm := cell_keep hb2 cm; have HB2 : Hid (Below w.heap.size w w2) := bnext HB.out hb2; clear hb2)
      go_ret
      exact ⟨rfl, HB2.out⟩
end Go.Proofs.Ytpglbakcjihohab

/-! The sketch of all events of all leaves in some windows. -/
namespace Go.Proofs.Ytpglbakcjihohab
open Go.RowKit
set_option maxRecDepth 100000

/-- One leaf's windows, from lo on, so many, merged into s. -/
def totRow (d : Nd) (lo : Nat) (s : Sk) (n : Nat) : Sk := (List.range n).foldl (fun s i => mrg s (skOf (evK d.lev ((lo + i : Nat) : Int)))) s
/-- Those of the first nodes. -/
def totTo (D : List Nd) (lo n j : Nat) : Sk := (D.take j).foldl (fun s d => totRow d lo s n) Sk.empty
theorem totRow_succ (d : Nd) (lo : Nat) (s : Sk) (n : Nat) : totRow d lo s (n + 1) = mrg (totRow d lo s n) (skOf (evK d.lev ((lo + n : Nat) : Int))) := by
  unfold totRow; rw [List.range_succ, List.foldl_append]; rfl
theorem totTo_succ (D : List Nd) (lo n j : Nat) (d : Nd) (h : D[j]? = some d) : totTo D lo n (j + 1) = totRow d lo (totTo D lo n j) n := by
  unfold totTo; rw [List.take_add_one, h, List.foldl_append]; rfl
theorem skOf_okE {l : List Ev3} (h : EvOk l) (k : Int) : (skOf (evK l k)).Ok := by rw [skOf_F]; exact F_ok _ (evK_allok h k)
theorem totRow_ok {d : Nd} (h : EvOk d.lev) (lo : Nat) {s : Sk} (hs : s.Ok) : ∀ n, (totRow d lo s n).Ok
  | 0 => hs
  | n + 1 => by rw [totRow_succ]; exact mrg_ok (totRow_ok h lo hs n) (skOf_okE h _)
theorem totTo_ok {D : List Nd} (h : ∀ (k : Nat) (d : Nd), D[k]? = some d → EvOk d.lev) (lo n : Nat) : ∀ j, j ≤ D.length → (totTo D lo n j).Ok
  | 0, _ => Sk.empty_ok
  | j + 1, hj => by
    have hd : D[j]? = some (D[j]'(by omega)) := List.getElem?_eq_getElem _
    rw [totTo_succ D lo n j _ hd]
    exact totRow_ok (h j _ hd) lo (totTo_ok h lo n j (by omega)) n
set_option maxHeartbeats 8000000 in
theorem ktotal_any (SR : SRT) (R : PR SR) (w : World) (own : Ghost) (B0 bk bs : Nat) (t : List Int) (wid : Int) (m : Nat) (D : List Nd) (A : List (Int × List It)) (hg : KX SR B0 bk bs t wid m D A w own) (hm : m < 100000000) (lo n : Nat) (hl : lo + n ≤ 20) (hi : Int) (hhi : hi = (lo : Int) + n - 1) :
    Calls Try.prog 63 #[.pointer (some ⟨bk, 0, none⟩), .int .i64 lo, .int .i64 hi] w fun e w' => ∃ M, e = .returned (.agg M) ∧ IsSk M (totTo D lo n t.length) ∧ Below w.heap.size w w' := by
  obtain ⟨vt, vs, vl, C, PK, g⟩ := hg
  obtain ⟨gs, cs, rfl⟩ := g.src
  have h8 := g.T.le
  obtain ⟨N, hN⟩ : ∃ N, t.length = N := ⟨_, rfl⟩
  have HN : Hid (t.length = N) := hN
  obtain ⟨⟨tp, tn, tc⟩, hvt⟩ : ∃ v0 : Sl, v0 = vt := ⟨_, rfl⟩
  have htr : t.length = tn := by have := g.tr; rw [← hvt] at this; exact (Own.sl (s := ⟨tp, tn, tc⟩) this).1
  have C1 : Hid (w.cell? ⟨bk, 1, none⟩ = some (.slice tp N tc)) := by unfold Hid; rw [cell_of_row _ _ _ _ _ _ g.run, ← hvt, ← hN, htr]; rfl
  have C3 : Hid (w.cell? ⟨bk, 3, none⟩ = some (.slice (some ⟨gs, 0, none⟩) N cs)) := by unfold Hid; rw [cell_of_row _ _ _ _ _ _ g.run, ← hN]; rfl
  have HG : Hid (KD SR w own B0 bk bs t wid m D vt ⟨some ⟨gs, 0, none⟩, t.length, cs⟩ vl C PK A) := g
  have hld := g.inv.ld
  have HOKD : Hid (∀ (k : Nat) (d : Nd), D[k]? = some d → EvOk d.lev) := fun k d hd => (g.nb k d hd).lev
  rw [hN]
  clear g htr hvt
  go_enter Try.func63, Try.ntmps63
  go_wp2_with (first | (refine alloc_sk rfl rfl ?_; intro Z hZ) | (go_at_call 75; refine (tempty_any _).mono ?_; rintro e w1 ⟨E, rfl, hE, hb⟩; have gZ := keep hb (heap_alloc_new w _); have HZ := hZ.size; have HB := bnext (below_alloc _ _) hb; clear hb; obtain ⟨Y, hY⟩ : ∃ Y, Y = Z := ⟨_, rfl⟩; rw [← hY] at gZ HZ; clear hY hZ) | (refine store_sk_new rfl _ _ rfl E _ _ rfl rfl (by rfl) hE hZ ?_))
  have hlt1 := lt_of_blk gZ
  go_loopw [8] (fun i wr => ∃ (k : Nat) (M : Array Value), k ≤ N ∧ i = .int .i64 k ∧ IsSk M (totTo D lo n k) ∧ Below w.heap.size w wr ∧ wr.heap[w.heap.size]? = some (.cells Y 59) ∧ wr.heap[w1.heap.size]? = some (.cells M 59)) (fun i _ => N - (intOf i).toNat)
  case atStart => exact ⟨0, E, by omega, rfl, hE, bnext HB (below_alloc _ _), blk_old gZ, heap_alloc_new _ _⟩
  case round =>
    clear hE gZ
    obtain ⟨k, M, hk, rfl, hM, hB, gY, gM⟩ := hrel
    have HM : Hid (IsSk M (totTo D lo n k)) := hM
    have HBr : Hid (Below w.heap.size w wr) := hB
    have c1 := cell_keep hB C1.out
    have HGY : Hid (wr.heap[w.heap.size]? = some (.cells Y 59)) := gY
    have HGM : Hid (wr.heap[w1.heap.size]? = some (.cells M 59)) := gM
    clear hM hB gY gM
    by_cases hlk : k < N
    · obtain ⟨c, d, hc, hd, rep, nb⟩ := HG.out.at k (by omega)
      have HS : Hid (totTo D lo n (k + 1) = totRow d lo (totTo D lo n k) n) := totTo_succ D lo n k d hd
      have HOK0 : Hid (totTo D lo n k).Ok := totTo_ok HOKD.out lo n k (by omega)
      have HCD : Hid (C[k]? = some c ∧ D[k]? = some d ∧ SrcRep w own B0 k c d ∧ NdB wid d) := ⟨hc, hd, rep, nb⟩
      have hlev : d.lev.length ≤ m := (HG.out.di k d hd).1
      clear hc hd rep nb
      go_wp2
      go_loopw [9] (fun i wr => ∃ (v : Nat) (M' : Array Value), v ≤ n ∧ i = .int .i64 ((lo + v : Nat) : Int) ∧ IsSk M' (totRow d lo (totTo D lo n k) v) ∧ Below w.heap.size w wr ∧ wr.heap[w.heap.size]? = some (.cells Y 59) ∧ wr.heap[w1.heap.size]? = some (.cells M' 59)) (fun i _ => lo + n - (intOf i).toNat)
      case atStart => exact ⟨0, M, by omega, by simp, HM.out, HBr.out, HGY.out, HGM.out⟩
      case round =>
        obtain ⟨v, M', hv, rfl, hM', hB', gY', gM'⟩ := hrel
        have okM := totRow_ok (HOKD.out k d HCD.out.2.1) lo HOK0.out v
        have c1' := cell_keep hB' C1.out
        have c3' := cell_keep hB' C3.out
        by_cases hlv : v < n
        · have hw20 : lo + v < 20 := by omega
          obtain ⟨⟨ep, en, ec⟩, hsl⟩ : ∃ s, s = c.ev (lo + v) := ⟨_, rfl⟩
          have hso : Own clSrc w B0 87 (.slice (some ⟨gs, 0, none⟩) t.length cs) C := HG.out.so
          have cev : w.cell? ⟨gs, k * 82 + (lo + v), none⟩ = some (.slice ep en ec) := hso.cell_at k c HCD.out.1 (lo + v) _ (by show c.cells[lo + v]? = _; rw [c.get _ (by omega), c.at_ev _ hw20, ← hsl])
          replace cev := cell_keep hB' cev
          have hev : ((evK d.lev ((lo + v : Nat) : Int)).map evOf).length = en ∧ RowsAt clE w ep ((evK d.lev ((lo + v : Nat) : Int)).map evOf) := by have := HCD.out.2.2.1.ev (lo + v) hw20; rw [← hsl] at this; exact Own.sl (s := ⟨ep, en, ec⟩) this
          have HEV : Hid (RowsAt clE wr ep ((evK d.lev ((lo + v : Nat) : Int)).map evOf)) := hev.2.below hB'
          have HL : Hid (((evK d.lev ((lo + v : Nat) : Int)).map evOf).length = en) := hev.1
          have hlen : en ≤ m := by rw [← hev.1, List.length_map]; exact Nat.le_trans (evK_len _ _) hlev
          have HOKE : Hid (AllOk ((evK d.lev ((lo + v : Nat) : Int)).map evOf)) := evK_allok HCD.out.2.2.2.lev _
          have HSK : Hid (F ((evK d.lev ((lo + v : Nat) : Int)).map evOf) = skOf (evK d.lev ((lo + v : Nat) : Int))) := (skOf_F _).symm
          have HR : Hid (totRow d lo (totTo D lo n k) (v + 1) = mrg (totRow d lo (totTo D lo n k) v) (skOf (evK d.lev ((lo + v : Nat) : Int)))) := totRow_succ _ _ _ _
          have HGY' : Hid (wr.heap[w.heap.size]? = some (.cells Y 59)) := gY'
          have HGM' : Hid (wr.heap[w1.heap.size]? = some (.cells M' 59)) := gM'
          have HB' : Hid (Below w.heap.size w wr) := hB'
          have HM' : Hid (IsSk M' (totRow d lo (totTo D lo n k) v)) := hM'
          have k0 : (0 : Int) ≤ (k : Int) := by omega
          have k1 : (k : Int) < (N : Int) := by omega
          have q0 : (0 : Int) ≤ ((lo + v : Nat) : Int) := by omega
          have q1 : ((lo + v : Nat) : Int) < 20 := by omega
          have hcmp : ((lo + v : Nat) : Int) ≤ hi := by omega
          have HOKE2 : Hid (skOf (evK d.lev ((lo + v : Nat) : Int))).Ok := skOf_okE HCD.out.2.2.2.lev _
          have HOKM : Hid (totRow d lo (totTo D lo n k) v).Ok := okM
          clear hsl hso hev gY' gM' hB' hM' okM
          go_wp2_with (first | (go_at_call 74; refine (kfold_any _ _ en _ _ HL.out (kevs_rows HEV.out HOKE.out) (by simp only [maxLen]; omega)).mono ?_; rintro e w2 ⟨R, rfl, hR, hb2⟩; rw [HSK.out] at hR; have HR2 : Hid (IsSk R (skOf (evK d.lev ((lo + v : Nat) : Int)))) := hR; have HB2 : Hid (Below w.heap.size w w2) := bnext HB'.out hb2; have GY2 : Hid (w2.heap[w.heap.size]? = some (.cells Y 59)) := keep hb2 HGY'.out; have GM2 : Hid (w2.heap[w1.heap.size]? = some (.cells M' 59)) := keep hb2 HGM'.out; clear hR hb2) | (refine alloc_sk rfl rfl ?_; intro Z2 hZ2) | (refine store_sk_new rfl _ _ rfl R _ _ rfl rfl (by rfl) HR2.out hZ2 ?_) | (refine load_sk rfl _ rfl _ rfl M' _ HM'.out (by exact blk_old GM2.out) ?_) | (refine load_sk rfl _ rfl _ rfl R _ HR2.out (by exact heap_alloc_new _ _) ?_) | (go_at_call 76; refine (tmerge_any _ _ M' R HM'.out HR2.out HOKM.out HOKE2.out _).mono ?_; rintro e w4 ⟨RR, rfl, hRR, hb4⟩; have HRR : Hid (IsSk RR (totRow d lo (totTo D lo n k) (v + 1))) := (by unfold Hid; rw [HR.out]; exact hRR); have HB4 : Hid (Below w.heap.size w w4) := bnext (bnext HB2.out (below_alloc _ _)) hb4; have GY4 : Hid (w4.heap[w.heap.size]? = some (.cells Y 59)) := keep hb4 (blk_old GY2.out); have GM4 : Hid (w4.heap[w1.heap.size]? = some (.cells M' 59)) := keep hb4 (blk_old GM2.out); clear hRR hb4) | (refine store_sk rfl _ _ rfl RR _ rfl rfl HRR.out (by exact GM4.out) HM'.out.size ?_))
          go_roundw
          case rel => exact ⟨v + 1, RR, by omega, by go_num, HRR.out, below_setRow _ HB4.out (Nat.le_of_lt hlt1), setRow_oth (by omega) GY4.out, setRow_blk GM4.out⟩
          case measure => simp [intOf]; omega
        · obtain rfl : v = n := by omega
          have hcmp : ¬ ((lo + v : Nat) : Int) ≤ hi := by omega
          have HM' : Hid (IsSk M' (totTo D lo v (k + 1))) := by unfold Hid; rw [HS.out]; exact hM'
          have HGY' : Hid (wr.heap[w.heap.size]? = some (.cells Y 59)) := gY'
          have HGM' : Hid (wr.heap[w1.heap.size]? = some (.cells M' 59)) := gM'
          have HB' : Hid (Below w.heap.size w wr) := hB'
          clear hM' gY' gM' hB'
          go_wp2
          go_roundw
          case rel => exact ⟨k + 1, M', by omega, by go_num, HM'.out, HB'.out, HGY'.out, HGM'.out⟩
          case measure => simp [intOf]; omega
    · obtain rfl : k = N := by omega
      go_wp2_with (first | (refine load_sk rfl _ rfl _ rfl M _ HM.out (by exact HGM.out) ?_) | (refine store_sk rfl _ _ rfl M _ rfl rfl HM.out (by exact HGY.out) HZ ?_))
      exact bodyPost_ret (results_sk rfl _ _ _ M _ HM.out rfl (setRow_blk HGY.out)) rfl ⟨M, rfl, HM.out, below_setRow _ HBr.out (Nat.le_refl _)⟩
end Go.Proofs.Ytpglbakcjihohab

/-! What the root calls sealed is the sketch of all events of those windows; once the root has every leaf's last item it calls them sealed (no program is named here). -/
namespace Go.Proofs.Ytpglbakcjihohab
open Go.RowKit
set_option maxRecDepth 100000

/-! ### Rising lists -/
theorem inc_sub : ∀ (l2 l1 : List Int), l1.Pairwise (· < ·) → l2.Pairwise (· < ·) → (∀ x ∈ l1, x ∈ l2) → l1.Sublist l2
  | [], l1, _, _, h => by
    cases l1 with
    | nil => exact List.Sublist.slnil
    | cons a l1 => have := h a (by simp); simp at this
  | b :: l2, [], _, _, _ => List.nil_sublist _
  | b :: l2, a :: l1, h1, h2, h => by
    rw [List.pairwise_cons] at h1 h2
    by_cases e : a = b
    · subst e
      refine List.Sublist.cons_cons a (inc_sub l2 l1 h1.2 h2.2 fun x hx => ?_)
      have hlt := h1.1 x hx
      rcases List.mem_cons.1 (h x (by simp [hx])) with r | r
      · omega
      · exact r
    · have ha : a ∈ l2 := by
        rcases List.mem_cons.1 (h a (by simp)) with r | r
        · exact absurd r e
        · exact r
      have hba := h2.1 a ha
      refine List.Sublist.cons b (inc_sub l2 (a :: l1) (List.pairwise_cons.2 h1) h2.2 fun x hx => ?_)
      have hbx : b < x := by
        rcases List.mem_cons.1 hx with rfl | hx
        · exact hba
        · have := h1.1 x hx; omega
      rcases List.mem_cons.1 (h x hx) with r | r
      · omega
      · exact r
theorem inc_eq {l1 l2 : List Int} (h1 : l1.Pairwise (· < ·)) (h2 : l2.Pairwise (· < ·)) (h : ∀ x ∈ l1, x ∈ l2) (hl : l2.length ≤ l1.length) : l1 = l2 :=
  (inc_sub l2 l1 h1 h2 h).eq_of_length_le hl
/-! ### Leaves and windows as numbers -/
def kyO (x : It) : Int := x.leaf * 20 + x.win
def fkTo (t : List Int) (lo n : Nat) : Nat → List Int
  | 0 => []
  | j + 1 => fkTo t lo n j ++ (if isLf t j = true then (List.range n).map fun i : Nat => ((j : Int) * 20 + lo + i) else [])
theorem fk_mem {t : List Int} {lo n : Nat} : ∀ {j : Nat} {q : Int}, q ∈ fkTo t lo n j ↔ ∃ k i : Nat, k < j ∧ isLf t k = true ∧ i < n ∧ q = (k : Int) * 20 + lo + i
  | 0, q => by simp [fkTo]
  | j + 1, q => by
    unfold fkTo
    rw [List.mem_append, fk_mem]
    constructor
    · rintro (⟨k, i, a, b, c, d⟩ | h)
      · exact ⟨k, i, by omega, b, c, d⟩
      · split at h
        · rename_i hl
          obtain ⟨i, hi, rfl⟩ := List.mem_map.1 h
          exact ⟨j, i, by omega, hl, by simpa using hi, rfl⟩
        · simp at h
    · rintro ⟨k, i, a, b, c, d⟩
      by_cases e : k = j
      · subst e
        right
        rw [if_pos b]
        exact List.mem_map.2 ⟨i, by simpa using c, d.symm⟩
      · exact .inl ⟨k, i, by omega, b, c, d⟩
theorem fk_inc (t : List Int) (lo n : Nat) (h : lo + n ≤ 20) : ∀ j, (fkTo t lo n j).Pairwise (· < ·)
  | 0 => List.Pairwise.nil
  | j + 1 => by
    unfold fkTo
    rw [List.pairwise_append]
    refine ⟨fk_inc t lo n h j, ?_, fun a ha b hb => ?_⟩
    · split
      · rw [List.pairwise_map]
        exact List.pairwise_lt_range.imp fun h => by omega
      · exact List.Pairwise.nil
    · obtain ⟨k, i, a1, _, a3, rfl⟩ := fk_mem.1 ha
      split at hb
      · obtain ⟨i', hi', rfl⟩ := List.mem_map.1 hb
        have : i' < n := by simpa using hi'
        omega
      · simp at hb
theorem under_root {t : List Int} (hT : Tree t) : ∀ (f i : Nat), i < f → i < t.length → under t i 0 = true
  | 0, _, h, _ => by omega
  | f + 1, i, h, hi => by
    rcases Nat.eq_zero_or_pos i with rfl | hp
    · exact under_self t _ (by omega)
    · have hl := hT.up i hp hi
      rw [under_step hT i 0 (by omega) (by omega) (by omega)]
      have e : t.getD ((i : Int)).toNat (-1) = t.getD i 0 := by simp [List.getD, List.getElem?_eq_getElem hi]
      rw [e]
      have := under_root hT f (t.getD i 0).toNat (by omega) (by omega)
      rw [show (((t.getD i 0).toNat : Nat) : Int) = t.getD i 0 by omega] at this
      exact this
theorem fk_len {t : List Int} (hT : Tree t) (lo n : Nat) : ∀ j, j ≤ t.length → (fkTo t lo n j).length = lvU t 0 j * n
  | 0, _ => by simp [fkTo, lvU]
  | j + 1, hj => by
    unfold fkTo
    rw [lvU_succ, List.length_append, fk_len hT lo n j (by omega), under_root hT (j + 1) j (by omega) (by omega)]
    cases isLf t j <;> simp [Nat.add_mul]
/-! ### The sketch of a leaf's window -/
def gkO (D : List Nd) (q : Int) : Sk := skOf (evK (((D[(q / 20).toNat]?).map fun d => d.lev).getD []) (q % 20))
theorem gk_at {D : List Nd} {k : Nat} {d : Nd} (h : D[k]? = some d) (v : Nat) (hv : v < 20) : gkO D ((k : Int) * 20 + v) = skOf (evK d.lev v) := by
  unfold gkO
  have e1 : ((k : Int) * 20 + v) / 20 = k := by omega
  have e2 : ((k : Int) * 20 + v) % 20 = v := by omega
  rw [e1, e2]
  simp [h]
theorem mrgEmptyR {s : Sk} (ok : s.Ok) : mrg s Sk.empty = s := by rw [mrgComm, mrgEmpty ok]
theorem totRow_fk {D : List Nd} {k : Nat} {d : Nd} (h : D[k]? = some d) (lo : Nat) (s : Sk) : ∀ n, lo + n ≤ 20 → totRow d lo s n = ((List.range n).map fun i : Nat => ((k : Int) * 20 + lo + i)).foldl (fun s q => mrg s (gkO D q)) s
  | 0, _ => rfl
  | n + 1, hn => by
    rw [totRow_succ, List.range_succ, List.map_append, List.foldl_append, ← totRow_fk h lo s n (by omega)]
    have := gk_at h (lo + n) (by omega)
    simp only [List.map_cons, List.map_nil, List.foldl_cons, List.foldl_nil]
    rw [show ((k : Int) * 20 + lo + n) = (k : Int) * 20 + ((lo + n : Nat) : Int) by omega, this]
theorem totRow_nil {d : Nd} (h : d.lev = []) (lo : Nat) {s : Sk} (hs : s.Ok) : ∀ n, totRow d lo s n = s
  | 0 => rfl
  | n + 1 => by rw [totRow_succ, totRow_nil h lo hs n, h]; exact mrgEmptyR hs
theorem tot_fk {t : List Int} {D : List Nd} {A : List (Int × List It)} (hi : Inv t D A) (hev : ∀ (k : Nat) (d : Nd), D[k]? = some d → EvOk d.lev) (lo n : Nat) (hn : lo + n ≤ 20) : ∀ j, j ≤ t.length → totTo D lo n j = (fkTo t lo n j).foldl (fun s q => mrg s (gkO D q)) Sk.empty
  | 0, _ => rfl
  | j + 1, hj => by
    have hld := hi.ld
    have hd : D[j]? = some (D[j]'(by omega)) := List.getElem?_eq_getElem _
    rw [totTo_succ D lo n j _ hd]
    unfold fkTo
    rw [List.foldl_append, ← tot_fk hi hev lo n hn j (by omega)]
    cases hl : isLf t j with
    | true => rw [if_pos rfl]; exact totRow_fk hd lo _ n hn
    | false => rw [if_neg (by simp)]; exact totRow_nil (hi.inn j _ hd hl).1 lo (totTo_ok hev lo n j (by omega)) n
/-! ### The root's items -/
theorem lvAt_eq {t : List Int} {D : List Nd} {k : Nat} {d : Nd} (hk : k < t.length) (hd : D[k]? = some d) : lvAt t D k = lvg t d k := by
  unfold lvAt
  rw [if_pos (by simp [isNd]; omega)]
  simp [hd]
theorem lvAt_good {t : List Int} {D : List Nd} {A : List (Int × List It)} (h : Inv t D A) (h8 : t.length ≤ 8) {m : Nat} (hm : m ≤ 1000000000) (hdi : DI D m) (hev : ∀ (k : Nat) (d : Nd), D[k]? = some d → EvOk d.lev) (k : Nat) (hk : k < t.length) : Good (lvAt t D k) := by
  have hld := h.ld
  have hd : D[k]? = some (D[k]'(by omega)) := List.getElem?_eq_getElem _
  rw [lvAt_eq hk hd]
  unfold lvg
  split
  · exact known_good k _ _ (by omega) (by omega) (hev k _ hd) (by have := (hdi k _ hd).1; omega)
  · exact (h.gd k _ hd).1
theorem lvAt_lf {t : List Int} {D : List Nd} {A : List (Int × List It)} (h : Inv t D A) (k : Nat) (hk : k < t.length) (x : It) (hx : x ∈ lvAt t D k) : isLf t x.leaf = true := by
  have hld := h.ld
  have hd : D[k]? = some (D[k]'(by omega)) := List.getElem?_eq_getElem _
  rw [lvAt_eq hk hd] at hx
  unfold lvg at hx
  split at hx
  · rename_i hl
    unfold known knownTo at hx
    obtain ⟨v, _, rfl⟩ := List.mem_map.1 hx
    exact hl
  · exact (h.it k _ hd x (.inl hx)).1.lf
theorem key_inc {l : List It} (h : Good l) (f : It → Bool) : ((l.filter f).map kyO).Pairwise (· < ·) := by
  have hg := h.filter f
  rw [List.pairwise_map]
  refine (List.Pairwise.and_mem.1 hg.srt).imp fun {x y} hxy => ?_
  obtain ⟨hx, hy, ha⟩ := hxy
  have b1 := hg.inb x hx
  have b2 := hg.inb y hy
  rw [ahd_iff] at ha
  unfold kyO
  omega
theorem key_mem {t : List Int} {D : List Nd} {A : List (Int × List It)} (h : Inv t D A) (lo n : Nat) (hi : Int) (hhi : hi = (lo : Int) + n - 1) (k : Nat) (hk : k < t.length) (x : It) (hx : x ∈ (lvAt t D k).filter (inRg lo hi)) : kyO x ∈ fkTo t lo n t.length ∧ (x.fin = true → x.sk = gkO D (kyO x)) := by
  obtain ⟨h1, h2⟩ := List.mem_filter.1 hx
  have hl := lvAt_lf h k hk x h1
  obtain ⟨lf, wn, vr, e1, e2, e3, b1, b2, d, hd, b3, b4, b5⟩ := (lvAt_is h k hk x h1).nat
  simp only [inRg, decide_eq_true_eq] at h2
  have ek : kyO x = (lf : Int) * 20 + wn := by unfold kyO; rw [e1, e2]
  refine ⟨fk_mem.2 ⟨lf, wn - lo, b1, by rw [← e1]; exact hl, by omega, by rw [ek]; omega⟩, fun hf => ?_⟩
  rw [ek, gk_at hd wn b2, b4, (b5 hf).2, List.take_length]
theorem cnt_len (l : List It) : cnt l ≤ l.length := List.length_filter_le _ _
theorem cnt_all {l : List It} (h : l.length ≤ cnt l) : ∀ x ∈ l, x.fin = true := fun x hx => by
  have e : l.filter (·.fin) = l := List.filter_sublist.eq_of_length_le h
  have : x ∈ l.filter (·.fin) := by rw [e]; exact hx
  exact (List.mem_filter.1 this).2
theorem skAll_fk {D : List Nd} (l : List It) (h : ∀ x ∈ l, x.sk = gkO D (kyO x)) : skAll l = (l.map kyO).foldl (fun s q => mrg s (gkO D q)) Sk.empty := by
  unfold skAll
  suffices H : ∀ (l : List It) (s : Sk), (∀ x ∈ l, x.sk = gkO D (kyO x)) → l.foldl (fun s x => mrg s x.sk) s = (l.map kyO).foldl (fun s q => mrg s (gkO D q)) s from H l _ h
  intro l
  induction l with
  | nil => intro s _; rfl
  | cons x l ih =>
    intro s h
    simp only [List.foldl_cons, List.map_cons]
    rw [h x (by simp)]
    exact ih _ fun y hy => h y (by simp [hy])
/-- Sealed, it is all. -/
theorem seal_tot {t : List Int} (hT : Tree t) {D : List Nd} {A : List (Int × List It)} (h : Inv t D A) {m : Nat} (hm : m ≤ 1000000000) (hdi : DI D m) (hev : ∀ (k : Nat) (d : Nd), D[k]? = some d → EvOk d.lev) (lo n : Nat) (hn : lo + n ≤ 20) (hi : Int) (hhi : hi = (lo : Int) + n - 1) (hs : (askAn t (lvAt t D 0) 0 lo hi).sealed = true) (he : askErr t 0 lo hi = 0) :
    (askAn t (lvAt t D 0) 0 lo hi).sk = totTo D lo n t.length := by
  have hp := hT.pos
  unfold askAn at hs ⊢
  rw [if_pos he] at hs ⊢
  simp only [decide_eq_true_eq] at hs
  show skAll ((lvAt t D ((0 : Nat) : Int)).filter (inRg lo hi)) = _
  replace hs : (cnt ((lvAt t D ((0 : Nat) : Int)).filter (inRg lo hi)) : Int) = (lvU t 0 t.length : Int) * (hi - lo + 1) := hs
  have hlen := fk_len hT lo n t.length (Nat.le_refl _)
  have e1 : (lvU t 0 t.length : Int) * (hi - lo + 1) = ((fkTo t lo n t.length).length : Int) := by rw [hlen, show hi - (lo : Int) + 1 = (n : Int) by omega]; simp
  rw [e1] at hs
  have hg := lvAt_good h hT.le hm hdi hev 0 (by omega)
  have hc := cnt_len ((lvAt t D ((0 : Nat) : Int)).filter (inRg lo hi))
  have heq : ((lvAt t D ((0 : Nat) : Int)).filter (inRg lo hi)).map kyO = fkTo t lo n t.length := by
    refine inc_eq (key_inc hg _) (fk_inc t lo n hn _) (fun q hq => ?_) (by rw [List.length_map]; omega)
    obtain ⟨x, hx, rfl⟩ := List.mem_map.1 hq
    exact (key_mem h lo n hi hhi 0 (by omega) x hx).1
  have hll : ((lvAt t D ((0 : Nat) : Int)).filter (inRg lo hi)).length = (fkTo t lo n t.length).length := by rw [← heq, List.length_map]
  have hfin := cnt_all (l := (lvAt t D ((0 : Nat) : Int)).filter (inRg lo hi)) (by omega)
  rw [skAll_fk _ fun x hx => (key_mem h lo n hi hhi 0 (by omega) x hx).2 (hfin x hx), heq, tot_fk h hev lo n hn _ (Nat.le_refl _)]
/-- Where the root has the last item of every leaf's window, it says so. -/
theorem seal_yes {t : List Int} (hT : Tree t) {D : List Nd} {A : List (Int × List It)} (h : Inv t D A) {m : Nat} (hm : m ≤ 1000000000) (hdi : DI D m) (hev : ∀ (k : Nat) (d : Nd), D[k]? = some d → EvOk d.lev) (lo n : Nat) (hn : lo + n ≤ 20) (hi : Int) (hhi : hi = (lo : Int) + n - 1) (he : askErr t 0 lo hi = 0) (hall : ∀ k v : Nat, k < t.length → isLf t k = true → v < 20 → ∃ x ∈ lvAt t D 0, x.leaf = k ∧ x.win = v ∧ x.fin = true) :
    (askAn t (lvAt t D 0) 0 lo hi).sealed = true ∧ (askAn t (lvAt t D 0) 0 lo hi).closed = ((lvU t 0 t.length * n : Nat) : Int) := by
  have hp := hT.pos
  have hg := lvAt_good h hT.le hm hdi hev 0 (by omega)
  have hlen := fk_len hT lo n t.length (Nat.le_refl _)
  have hin := key_inc hg (inRg lo hi)
  have hsub : ∀ q ∈ ((lvAt t D ((0 : Nat) : Int)).filter (inRg lo hi)).map kyO, q ∈ fkTo t lo n t.length := fun q hq => by
    obtain ⟨x, hx, rfl⟩ := List.mem_map.1 hq
    exact (key_mem h lo n hi hhi 0 (by omega) x hx).1
  have hfin : ∀ q ∈ fkTo t lo n t.length, ∃ x ∈ (lvAt t D ((0 : Nat) : Int)).filter (inRg lo hi), kyO x = q ∧ x.fin = true := fun q hq => by
    obtain ⟨k, i, a1, a2, a3, rfl⟩ := fk_mem.1 hq
    obtain ⟨x, hx, b1, b2, b3⟩ := hall k (lo + i) a1 a2 (by omega)
    refine ⟨x, List.mem_filter.2 ⟨hx, ?_⟩, ?_, b3⟩
    · simp only [inRg, decide_eq_true_eq]; omega
    · unfold kyO; rw [b1, b2]; omega
  have hL : fkTo t lo n t.length = ((((lvAt t D ((0 : Nat) : Int)).filter (inRg lo hi)).filter (·.fin)).map kyO) := by
    refine inc_eq (fk_inc t lo n hn _) ?_ (fun q hq => ?_) ?_
    · rw [List.filter_filter]; exact key_inc hg _
    · obtain ⟨x, hx, e, hf⟩ := hfin q hq
      exact List.mem_map.2 ⟨x, List.mem_filter.2 ⟨hx, hf⟩, e⟩
    · have e1 := (inc_sub _ _ hin (fk_inc t lo n hn _) hsub).length_le
      have e2 := cnt_len ((lvAt t D ((0 : Nat) : Int)).filter (inRg lo hi))
      unfold cnt at e2
      rw [List.length_map] at e1 ⊢
      omega
  have hcn : cnt ((lvAt t D ((0 : Nat) : Int)).filter (inRg lo hi)) = lvU t 0 t.length * n := by
    rw [← hlen, hL, List.length_map]; rfl
  unfold askAn
  rw [if_pos he]
  refine ⟨?_, ?_⟩
  · simp only [decide_eq_true_eq]
    show (cnt ((lvAt t D ((0 : Nat) : Int)).filter (inRg lo hi)) : Int) = _
    rw [hcn, show hi - (lo : Int) + 1 = (n : Int) by omega]; simp
  · show (cnt ((lvAt t D ((0 : Nat) : Int)).filter (inRg lo hi)) : Int) = _
    rw [hcn]
end Go.Proofs.Ytpglbakcjihohab

/-! A run looks at all that is known: every item is as it must be, every leaf has its own, what is sealed is all. -/
namespace Go.Proofs.Ytpglbakcjihohab
open Go.RowKit
set_option maxRecDepth 100000

theorem KX.below {SR : SRT} (R : PR SR) {B0 bk bs : Nat} {t : List Int} {wid : Int} {m : Nat} {D : List Nd} {A : List (Int × List It)} {w w' : World} {own : Ghost} (h : KX SR B0 bk bs t wid m D A w own) (hb : Below w.heap.size w w') : KX SR B0 bk bs t wid m D A w' own := by
  obtain ⟨vt, vs, vl, C, PK, g⟩ := h
  exact ⟨vt, vs, vl, C, PK, g.below R hb⟩
theorem KX.ev {SR : SRT} {B0 bk bs : Nat} {t : List Int} {wid : Int} {m : Nat} {D : List Nd} {A : List (Int × List It)} {w : World} {own : Ghost} (h : KX SR B0 bk bs t wid m D A w own) : ∀ (k : Nat) (d : Nd), D[k]? = some d → EvOk d.lev := by
  obtain ⟨vt, vs, vl, C, PK, g⟩ := h
  exact fun k d hd => (g.nb k d hd).lev
theorem load_sk_mid_g {ops : Array Oper} {rest : List Oper} {o : Oper} {a : Act} {w : World} {Q : Exit → Act → World → Prop} (hw : Region.wanted o (yielded ops a.tmps) = true) (x : Operand) (ho : o.op = .load 59 x) (g off : Nat) (hx : a.eval x = .pointer (some ⟨g, off, none⟩)) (s : Sk) (hr : w.rangeAt g off s.cells.toList)
    (h : ∀ M, IsSk M s → wpList Try.prog ops Q rest (a.put o.dst (.agg M)) w) : wpList Try.prog ops Q (o :: rest) a w :=
  wpList_step fun _ hK => by
    rw [if_pos hw]
    exact wp_load_sk_mid x ho g off hx s hr fun M hM => hK _ _ (h M hM)
set_option maxHeartbeats 8000000 in
theorem kexact_any (SR : SRT) (R : PR SR) (w : World) (own : Ghost) (B0 bk bs : Nat) (t : List Int) (wid : Int) (m : Nat) (D : List Nd) (A : List (Int × List It)) (hg : KX SR B0 bk bs t wid m D A w own) (hm : m < 100000000) :
    Calls Try.prog 39 #[.pointer (some ⟨bk, 0, none⟩)] w fun e w' => e = .returned (.bool true) ∧ Below w.heap.size w w' := by
  have HX : Hid (KX SR B0 bk bs t wid m D A w own) := hg
  have HEVO : Hid (∀ (k : Nat) (d : Nd), D[k]? = some d → EvOk d.lev) := hg.ev
  obtain ⟨vt, vs, vl, C, PK, g⟩ := hg
  have h8 := g.T.le
  have hp1 := g.T.pos
  obtain ⟨N, hN⟩ : ∃ N, t.length = N := ⟨_, rfl⟩
  have HN : Hid (t.length = N) := hN
  obtain ⟨⟨tp, tn, tc⟩, hvt⟩ : ∃ v0 : Sl, v0 = vt := ⟨_, rfl⟩
  have htr : t.length = tn ∧ RowsAt clInt w tp t := by have := g.tr; rw [← hvt] at this; exact Own.sl (s := ⟨tp, tn, tc⟩) this
  have HTR : Hid (RowsAt clInt w tp t) := htr.2
  have C0 : Hid (w.cell? ⟨bk, 0, none⟩ = some (.pointer (some ⟨bs, 0, none⟩))) := by unfold Hid; rw [cell_of_row _ _ _ _ _ _ g.run]; rfl
  have C1 : Hid (w.cell? ⟨bk, 1, none⟩ = some (.slice tp N tc)) := by unfold Hid; rw [cell_of_row _ _ _ _ _ _ g.run, ← hvt, ← hN, htr.1]; rfl
  have HG : Hid (KD SR w own B0 bk bs t wid m D vt vs vl C PK A) := g
  have HR : Hid (PR SR) := R
  have HDI : Hid (DI D 100000000) := g.di.mono' (by omega)
  clear g R htr hvt
  go_enter Try.func39, Try.ntmps39
  go_wp2
  go_loopw [3] (fun i wr => ∃ k : Nat, k ≤ N ∧ i = .int .i64 k ∧ Below w.heap.size w wr) (fun i _ => N - (intOf i).toNat)
  case atStart => exact ⟨0, by omega, rfl, Below.refl _ _⟩
  case round =>
    obtain ⟨k, hk, rfl, hb⟩ := hrel
    have c0 := cell_keep hb C0.out
    have c1 := cell_keep hb C1.out
    have HB : Hid (Below w.heap.size w wr) := hb
    clear hb
    by_cases hlk : k < N
    · have hgl : Good (lvAt t D k) := lvAt_good HG.out.inv h8 (by omega) HDI.out HEVO.out k (by omega)
      have hln := hgl.len
      have HGL : Hid (Good (lvAt t D k)) := hgl
      clear hgl
      go_wp2_with (go_at_call 11; refine (HR.out.items wr own B0 bs t wid D (HR.out.below' HG.out.st HB.out) HDI.out k ⟨by omega, by omega⟩).mono ?_; rintro e w2 ⟨v2, rfl, ho2, hb2⟩; obtain ⟨ip, il, ic, rfl, hil⟩ : ∃ ip il ic, v2 = .slice ip il ic ∧ (lvAt t D k).length = il := (by obtain ⟨p', c', e, _⟩ := ho2.form; exact ⟨p', _, c', e, rfl⟩); have HRW : Hid (RowsAt clIt w2 ip (lvAt t D k)) := (Own.sl (s := ⟨ip, il, ic⟩) ho2).2; have HIL : Hid ((lvAt t D k).length = il) := hil; have HB2 : Hid (Below w.heap.size w w2) := bnext HB.out hb2; clear ho2 hb2)
      go_loopw [5] (fun i wr => ∃ q : Nat, q ≤ il ∧ i = .int .i64 q ∧ Below w.heap.size w wr ∧ RowsAt clIt wr ip (lvAt t D k)) (fun i _ => il - (intOf i).toNat)
      case atStart => exact ⟨0, by omega, rfl, HB2.out, HRW.out⟩
      case round =>
        obtain ⟨q, hq, rfl, hb3, hr3⟩ := hrel
        have HB3 : Hid (Below w.heap.size w wr) := hb3
        have HR3 : Hid (RowsAt clIt wr ip (lvAt t D k)) := hr3
        clear c0 c1
        have c0 := cell_keep hb3 C0.out
        have c1 := cell_keep hb3 C1.out
        clear hb3
        by_cases hlq : q < il
        · obtain ⟨gp, op, rfl, hgp, hrg⟩ := hr3.pos q (by omega)
          obtain ⟨x, hx⟩ : ∃ x, (lvAt t D k)[q]? = some x := ⟨_, List.getElem?_eq_getElem (by omega)⟩
          have HRG : Hid (wr.rangeAt gp (op + q * 32) x.cells) := hrg q x hx
          have HIS : Hid (ItIs t D x) := lvAt_is HG.out.inv k (by omega) x (List.mem_of_getElem? hx)
          have HOK : Hid x.Ok := HGL.out.ok.mem (List.mem_of_getElem? hx)
          clear hr3 hrg hx
          go_wp2_with (first | (refine load_it_mid rfl _ rfl _ _ rfl x (by exact HRG.out) ?_; intro Y hY) | (go_at_call 61; refine (kitem_any SR wr own B0 bk bs t wid m D A (HX.out.below HR.out HB3.out) hm x Y hY HOK.out HIS.out).mono ?_; rintro e w4 ⟨rfl, hb4⟩; have HB4 : Hid (Below wr.heap.size wr w4) := hb4; clear hb4 hY))
          go_roundw
          case rel => exact ⟨q + 1, by omega, by go_num, bnext HB3.out HB4.out, HR3.out.below HB4.out⟩
          case measure => simp [intOf]; omega
        · obtain rfl : q = il := by omega
          clear hr3
          obtain ⟨f, hf⟩ : ∃ f, isLf t k = f := ⟨_, rfl⟩
          have HF : Hid (isLf t k = f) := hf
          cases f with
          | true =>
            clear hf
            go_wp2_with (first | (go_at_call 44; refine (kleaf_any t tp N tc k _ HN.out (HTR.out.below HB3.out) (by omega)).mono ?_; rintro e wA ⟨rfl, hwA⟩; have hwA := hwA.symm; subst hwA; rw [HF.out]) | (go_at_call 62; refine (kowns_any SR HR.out _ own B0 bk bs t wid m D A (HX.out.below HR.out HB3.out) hm k (by omega) HF.out ip _ ic HIL.out HR3.out).mono ?_; rintro e w4 ⟨rfl, hb4⟩; have HB4 : Hid (Below w.heap.size w w4) := bnext HB3.out hb4; clear hb4))
            go_roundw
            case rel => exact ⟨k + 1, by omega, by go_num, HB4.out⟩
            case measure => simp [intOf]; omega
          | false =>
            clear hf
            go_wp2_with (go_at_call 44; refine (kleaf_any t tp N tc k _ HN.out (HTR.out.below HB3.out) (by omega)).mono ?_; rintro e wA ⟨rfl, hwA⟩; have hwA := hwA.symm; subst hwA; rw [HF.out])
            go_roundw
            case rel => exact ⟨k + 1, by omega, by go_num, HB3.out⟩
            case measure => simp [intOf]; omega
    · go_wp2
      clear c0 c1
      go_loopw [8] (fun i wr => ∃ q : Nat, q ≤ 20 ∧ i = .int .i64 q ∧ Below w.heap.size w wr) (fun i _ => 20 - (intOf i).toNat)
      case atStart => exact ⟨0, by omega, rfl, HB.out⟩
      case round =>
        obtain ⟨q, hq, rfl, hb⟩ := hrel
        have c0 := cell_keep hb C0.out
        have HBq : Hid (Below w.heap.size w wr) := hb
        clear hb
        by_cases hlq : q < 20
        · have HE : Hid (askErr t 0 q q = 0) := by unfold Hid askErr; rw [if_pos (by simp [isNd]; omega), if_pos (by simp [isRg]; omega)]
          obtain ⟨an, han⟩ : ∃ an, an = askAn t (lvAt t D 0) 0 q q := ⟨_, rfl⟩
          have HAN : Hid (askAn t (lvAt t D 0) 0 q q = an) := han.symm
          have HSE : Hid (an.sealed = true → an.sk = totTo D q 1 t.length) := fun hs => by
            rw [han] at hs ⊢
            exact seal_tot HG.out.T HG.out.inv (by omega) HDI.out HEVO.out q 1 (by omega) q (by omega) hs HE.out
          have HOKT : Hid (totTo D q 1 t.length).Ok := totTo_ok HEVO.out q 1 _ (by rw [HG.out.inv.ld]; exact Nat.le_refl _)
          clear han
          obtain ⟨sb, hsb⟩ : ∃ sb, an.sealed = sb := ⟨_, rfl⟩
          have HSB : Hid (an.sealed = sb) := hsb
          clear hsb
          go_upto_region 19 with (first | (go_at_call 32; refine (HR.out.ask wr own B0 bs t wid D (HR.out.below' HG.out.st HBq.out) HDI.out 0 q q ⟨by omega, by omega⟩ ⟨by omega, by omega⟩ ⟨by omega, by omega⟩).mono ?_; rintro e w2 ⟨AA, rfl, hA, hb2⟩; rw [HE.out]; rw [HAN.out] at hA; have HA : Hid (IsAn AA an) := hA; have HB2 : Hid (Below w.heap.size w w2) := bnext HBq.out hb2; clear hA hb2) | (refine alloc_an rfl rfl ?_; intro Z hZ) | (refine store_an_new rfl _ _ rfl AA _ _ rfl rfl (by rfl) HA.out hZ ?_) | (go_at_call 63; refine (ktotal_any SR HR.out _ own B0 bk bs t wid m D A (HX.out.below HR.out (bnext HB2.out (below_alloc _ _))) hm q 1 (by omega) q (by omega)).mono ?_; rintro e w4 ⟨M, rfl, hM, hb4⟩; have HM : Hid (IsSk M (totTo D q 1 t.length)) := hM; have GA4 : Hid (w4.heap[w2.heap.size]? = some (.cells AA 61)) := keep hb4 (heap_alloc_new _ _); have HB4 : Hid (Below w.heap.size w w4) := bnext (bnext HB2.out (below_alloc _ _)) hb4; clear hM hb4) | (refine alloc_sk rfl rfl ?_; intro Z2 hZ2) | (refine store_sk_new rfl _ _ rfl M _ _ rfl rfl (by rfl) HM.out hZ2 ?_))
          rename World => w4
          obtain ⟨w5, hw5⟩ : ∃ w5, w5 = w4.alloc (.cells M 59) := ⟨_, rfl⟩
          have GA5 : Hid (w5.heap[w2.heap.size]? = some (.cells AA 61)) := by unfold Hid; rw [hw5]; exact blk_old GA4.out
          have GM5 : Hid (w5.heap[w4.heap.size]? = some (.cells M 59)) := by unfold Hid; rw [hw5]; exact heap_alloc_new _ _
          have HB5 : Hid (Below w.heap.size w w5) := by unfold Hid; rw [hw5]; exact bnext HB4.out (below_alloc _ _)
          have s28 : w5.cell? ⟨w2.heap.size, 28, none⟩ = some (.bool sb) := by rw [cell_of_row _ _ _ _ _ _ GA5.out, ← HSB.out]; exact HA.out.get28
          rw [← hw5]
          clear hw5 GA4
          try dsimp only
          try simp only [Act.put, List.getElem_toArray, List.getElem_cons_succ, List.getElem_cons_zero, List.setIfInBounds_toArray, List.set_cons_zero, List.set_cons_succ]
          cases sb with
          | false =>
            go_wp2
            go_roundw
            case rel => exact ⟨q + 1, by omega, by go_num, HB5.out⟩
            case measure => simp [intOf]; omega
          | true =>
            have HM5 : Hid (IsSk M an.sk) := by unfold Hid; rw [HSE.out HSB.out]; exact HM.out
            have HOK5 : Hid an.sk.Ok := by unfold Hid; rw [HSE.out HSB.out]; exact HOKT.out
            go_wp2_with (first | (refine load_sk_mid_g (by rfl) _ rfl _ 0 rfl an.sk (by exact HA.out.range0 GA5.out) ?_; intro S hS; have hSM : S = M := hS.trans HM5.out.symm; subst hSM) | (refine load_sk_g (by rfl) _ rfl _ rfl _ _ HM5.out (by exact GM5.out) ?_) | (refine neq_sk_g (by rfl) _ _ _ rfl _ _ HM5.out HOK5.out rfl rfl ?_))
            go_roundw
            case rel => exact ⟨q + 1, by omega, by go_num, HB5.out⟩
            case measure => simp [intOf]; omega
        · go_wp2
          go_ret
          exact ⟨rfl, HBq.out⟩
end Go.Proofs.Ytpglbakcjihohab

/-! A key cut short. -/
namespace Go.Proofs.Ytpglbakcjihohab
open Go.RowKit
set_option maxRecDepth 100000

set_option maxHeartbeats 1000000 in
theorem kshort_any (s : ByteArray) (hs : s.size ≤ maxLen) (w : World) :
    Calls Try.prog 35 #[.string s] w fun e w' => ∃ s' : ByteArray, e = .returned (.string s') ∧ s'.size ≤ 20 ∧ w' = w := by
  have hs' : s.size ≤ 9223372036854775807 := by unfold maxLen at hs; omega
  by_cases h : 20 < s.size
  · go_enter Try.func35, Try.ntmps35
    go_wp2
    go_ret
    exact ⟨_, rfl, by simp; omega, rfl⟩
  · go_enter Try.func35, Try.ntmps35
    go_wp2
    go_ret
    exact ⟨_, rfl, by omega, rfl⟩
end Go.Proofs.Ytpglbakcjihohab

/-! One step of a run. -/
namespace Go.Proofs.Ytpglbakcjihohab
open Go.RowKit
set_option maxRecDepth 100000

/-- What is stored stays. -/
def Kst (D D' : List Nd) : Prop := ∀ (k : Nat) (d : Nd), D[k]? = some d → ∃ d', D'[k]? = some d' ∧ d'.kev = d.kev ∧ d'.kcl = d.kcl ∧ d'.kmk = d.kmk ∧ d'.saved = d.saved
theorem Kst.refl (D : List Nd) : Kst D D := fun k d h => ⟨d, h, rfl, rfl, rfl, rfl⟩
theorem Kst.trans {D D' D'' : List Nd} (h : Kst D D') (g : Kst D' D'') : Kst D D'' := fun k d hd => by
  obtain ⟨d', h0, h1, h2, h3, h4⟩ := h k d hd
  obtain ⟨d'', g0, g1, g2, g3, g4⟩ := g k d' h0
  exact ⟨d'', g0, g1.trans h1, g2.trans h2, g3.trans h3, g4.trans h4⟩
theorem kst_set {D : List Nd} {k : Nat} {d d' : Nd} (h : D[k]? = some d) (h1 : d'.kev = d.kev) (h2 : d'.kcl = d.kcl) (h3 : d'.kmk = d.kmk) (h4 : d'.saved = d.saved) : Kst D (D.set k d') := fun j e he => by
  by_cases ej : k = j
  · subst ej
    rw [h] at he; cases he
    exact ⟨d', List.getElem?_set_self (List.getElem?_eq_some_iff.1 h).1, h1, h2, h3, h4⟩
  · exact ⟨e, by rw [List.getElem?_set_ne ej]; exact he, rfl, rfl, rfl, rfl⟩
theorem kst_ing (t : List Int) (wid : Int) (D : List Nd) (n at' : Int) (key : ByteArray) (v : Int) : Kst D (ingD t wid D n at' key v) := by
  unfold ingD
  split
  · split
    · rename_i d hd; exact kst_set hd rfl rfl rfl rfl
    · exact Kst.refl D
  · exact Kst.refl D
theorem kst_adv (t : List Int) (wid : Int) (D : List Nd) (n tm : Int) : Kst D (advD t wid D n tm) := by
  unfold advD
  split
  · split
    · rename_i d hd; exact kst_set hd rfl rfl rfl rfl
    · exact Kst.refl D
  · exact Kst.refl D
theorem kst_del (t : List Int) (D : List Nd) (n fr : Int) (l : List It) : Kst D (delD t D n fr l) := by
  unfold delD
  split
  · split
    · rename_i d hd; exact kst_set hd rfl rfl rfl rfl
    · exact Kst.refl D
  · exact Kst.refl D
theorem kst_br {t : List Int} {A : List (Int × List It)} {D D' : List Nd} (h : BrD t A D D') : Kst D D' := by
  rcases h with rfl | ⟨p, _, rfl⟩
  · exact Kst.refl _
  · exact kst_del _ _ _ _ _
theorem lvs_pos {t : List Int} (hT : Tree t) : 1 ≤ (lvsTo t t.length).length := by
  have h1 := hT.pos
  have hl : isLf t ((t.length - 1 : Nat) : Int) = true := by
    unfold isLf
    simp only [decide_eq_true_eq]
    intro hm
    obtain ⟨i, hi⟩ := List.getElem?_of_mem hm
    have hil := (List.getElem?_eq_some_iff.1 hi).1
    have hlt := hT.lt i hil
    have e : t.getD i (-1) = ((t.length - 1 : Nat) : Int) := by simp [List.getD, hi]
    rw [e] at hlt
    omega
  have := lvsTo_yes t (t.length - 1) hl
  rw [show t.length - 1 + 1 = t.length by omega] at this
  rw [this]; simp
theorem lvs_at {t : List Int} {N : Nat} (q : Nat) (hq : q < (lvsTo t N).length) : ∃ j : Nat, (lvsTo t N)[q]? = some (j : Int) ∧ j < N ∧ isLf t j = true := by
  have h1 : (lvsTo t N)[q]? = some ((lvsTo t N)[q]'hq) := List.getElem?_eq_getElem _
  have hm := List.getElem_mem hq
  obtain ⟨j, hj, e⟩ := List.mem_map.1 hm
  obtain ⟨h2, h3⟩ := List.mem_filter.1 hj
  exact ⟨j, by rw [h1, ← e], by simpa using h2, h3⟩
theorem KN.grow {SR : SRT} {B0 bk bs : Nat} {t : List Int} {wid : Int} {m m' : Nat} {D : List Nd} {A : List (Int × List It)} {w w' : World} {own : Ghost} (h : KN SR B0 bk bs t wid m D A w own w') (hm : m ≤ m') : KN SR B0 bk bs t wid m' D A w own w' := by
  obtain ⟨own', ⟨vt, vs, vl, C, PK, g⟩, s, f⟩ := h
  exact ⟨own', ⟨vt, vs, vl, C, PK, g.mono hm⟩, s, f⟩
theorem KN.same {SR : SRT} (R : PR SR) {B0 bk bs : Nat} {t : List Int} {wid : Int} {m : Nat} {D : List Nd} {A : List (Int × List It)} {w w' : World} {own : Ghost} (h : KX SR B0 bk bs t wid m D A w own) (hb : Below w.heap.size w w') : KN SR B0 bk bs t wid m D A w own w' :=
  ⟨own, h.below R hb, Same.refl _ _, Fr.of_below hb⟩
theorem KX.chg {SR : SRT} (R : PR SR) {B0 bk bs : Nat} {t : List Int} {wid : Int} {m : Nat} {D : List Nd} {A : List (Int × List It)} {w w' : World} {own own2 : Ghost} (h : KX SR B0 bk bs t wid m D A w own) (hb : Below w.heap.size w w') (ho : ∀ j, j < w.heap.size → own2 j = own j) : KX SR B0 bk bs t wid m D A w' own2 := by
  obtain ⟨vt, vs, vl, C, PK, g⟩ := h
  exact ⟨vt, vs, vl, C, PK, g.chg R (S := fun _ => False) (Fr.of_below hb) (fun j hj _ => ho j hj) (fun _ h => h.elim)⟩
/-- What the program keeps to. -/
structure PA (SR : SRT) : Prop where
  R : PR SR
  L : PL SR
  S : PS SR
  D : PD SR
  J : PJ2 SR
set_option maxHeartbeats 16000000 in
theorem kstep_any (SR : SRT) (P : PA SR) (w : World) (own : Ghost) (B0 bk bs : Nat) (t : List Int) (wid : Int) (m : Nat) (D : List Nd) (A : List (Int × List It)) (hg : KX SR B0 bk bs t wid m D A w own) (hm : m < 99999999) (kd a b : Int) (s : ByteArray) (v : Int) (hkd : fitsI kd) (ha : fitsI a) (hbb : fitsI b) (hs : s.size ≤ maxLen) (v0 : -2147483648 ≤ v) (v1 : v ≤ 2147483647) :
    Calls Try.prog 15 #[.pointer (some ⟨bk, 0, none⟩), .agg #[.int .i64 kd, .int .i64 a, .int .i64 b, .string s, .int .i32 v]] w fun e w' => e = .returned (.bool true) ∧ ∃ D' A', KN SR B0 bk bs t wid (m + 1) D' A' w own w' ∧ (pk kd 8 ≠ 2 → pk kd 8 ≠ 3 → Kst D D') := by
  have HX : Hid (KX SR B0 bk bs t wid m D A w own) := hg
  have HP : Hid (PA SR) := P
  obtain ⟨vt, vs, vl, C, PK, g⟩ := hg
  have h8 := g.T.le
  have hp1 := g.T.pos
  have w0 := g.wid0
  have w9 := g.wid1
  obtain ⟨N, hN⟩ : ∃ N, t.length = N := ⟨_, rfl⟩
  have HN : Hid (t.length = N) := hN
  obtain ⟨⟨tp, tn, tc⟩, hvt⟩ : ∃ v0 : Sl, v0 = vt := ⟨_, rfl⟩
  have htr : t.length = tn ∧ RowsAt clInt w tp t := by have := g.tr; rw [← hvt] at this; exact Own.sl (s := ⟨tp, tn, tc⟩) this
  have HTR : Hid (RowsAt clInt w tp t) := htr.2
  have c1 : w.cell? ⟨bk, 1, none⟩ = some (.slice tp N tc) := by rw [cell_of_row _ _ _ _ _ _ g.run, ← hvt, ← hN, htr.1]; rfl
  have c2 : w.cell? ⟨bk, 2, none⟩ = some (.int .i64 wid) := by rw [cell_of_row _ _ _ _ _ _ g.run]; rfl
  have hN1 : (1 : Int) ≤ (N : Int) := by omega
  have hpn := pk_bd a N hN1
  obtain ⟨n, hn⟩ : ∃ n : Nat, pk a N = n := ⟨(pk a N).toNat, by omega⟩
  have HPN : Hid (pk a N = n) := hn
  have hnN : n < N := by omega
  obtain ⟨LN, hLN⟩ : ∃ LN, (lvsTo t N).length = LN := ⟨_, rfl⟩
  have HLN : Hid ((lvsTo t N).length = LN) := hLN
  have hL1 : 1 ≤ LN := by rw [← hLN, ← hN]; exact lvs_pos g.T
  have hL8 : LN ≤ 8 := by have := lvsTo_len t N; omega
  have hpl := pk_bd a LN (by omega)
  obtain ⟨q, hq⟩ : ∃ q : Nat, pk a LN = q := ⟨(pk a LN).toNat, by omega⟩
  have HPQ : Hid (pk a LN = q) := hq
  obtain ⟨k, hkq, hkN, hkl⟩ := lvs_at (t := t) (N := N) q (by omega)
  have HKQ : Hid ((lvsTo t N)[q]? = some (k : Int)) := hkq
  have HKL : Hid (isLf t k = true) := hkl
  have hpb := pk_bd b 20 (by omega)
  obtain ⟨wq, hwq⟩ : ∃ wq : Nat, pk b 20 = wq := ⟨(pk b 20).toNat, by omega⟩
  have HPW : Hid (pk b 20 = wq) := hwq
  have hwq20 : wq < 20 := by omega
  have hpk8 := pk_bd kd 8 (by omega)
  obtain ⟨kk, hkk⟩ : ∃ kk : Int, pk kd 8 = kk := ⟨_, rfl⟩
  have HKK : Hid (pk kd 8 = kk) := hkk
  rw [hkk] at hpk8 ⊢
  have HT : Hid (Tree t) := g.T
  clear g P htr hvt hn hpn hLN hpl hq hkq hkl hwq hpb hkk
  have q0 : (0 : Int) ≤ (q : Int) := by omega
  have q1 : (q : Int) < (LN : Int) := by have := HPQ.out; have := pk_bd a LN (by omega); omega
  go_enter Try.func15, Try.ntmps15
  go_upto_region 1 with fail
  obtain ⟨w1, hw1⟩ : ∃ w1, w1 = w.alloc (.cells #[.int .i64 kd, .int .i64 a, .int .i64 b, .string s, .int .i32 v] 49) := ⟨_, rfl⟩
  have hb1 : Below w.heap.size w w1 := by rw [hw1]; exact below_alloc _ _
  have G1 : w1.heap[w.heap.size]? = some (.cells #[.int .i64 kd, .int .i64 a, .int .i64 b, .string s, .int .i32 v] 49) := by rw [hw1]; exact heap_alloc_new _ _
  rw [← hw1]
  have o0 : w1.cell? ⟨w.heap.size, 0, none⟩ = some (.int .i64 kd) := by rw [cell_of_row _ _ _ _ _ _ G1]; rfl
  have o1 : w1.cell? ⟨w.heap.size, 1, none⟩ = some (.int .i64 a) := by rw [cell_of_row _ _ _ _ _ _ G1]; rfl
  have o2 : w1.cell? ⟨w.heap.size, 2, none⟩ = some (.int .i64 b) := by rw [cell_of_row _ _ _ _ _ _ G1]; rfl
  have o3 : w1.cell? ⟨w.heap.size, 3, none⟩ = some (.string s) := by rw [cell_of_row _ _ _ _ _ _ G1]; rfl
  have o4 : w1.cell? ⟨w.heap.size, 4, none⟩ = some (.int .i32 v) := by rw [cell_of_row _ _ _ _ _ _ G1]; rfl
  replace c1 := cell_keep hb1 c1
  replace c2 := cell_keep hb1 c2
  have HB1 : Hid (Below w.heap.size w w1) := hb1
  clear G1 hb1 hw1
  have hT0 : (fun w' : World => w'.cell? ⟨w.heap.size, 1, none⟩ = some (.int .i64 a) ∧ w'.cell? ⟨bk, 1, none⟩ = some (.slice tp N tc)) w1.drew := ⟨o1, c1⟩
  refine wp_region_held (S := fun w' : World => w'.cell? ⟨w.heap.size, 1, none⟩ = some (.int .i64 a) ∧ w'.cell? ⟨bk, 1, none⟩ = some (.slice tp N tc)) mixed ?_
  refine wpAnyH_take (i := 0) (v := (.pointer (some ⟨w.heap.size, 1, none⟩))) rfl (by kernel_rfl) (by kernel_rfl) (by kernel_rfl) (fun _ _ _ h => h) (Or.inl ⟨by rfl, fun wx hx => by go_simp⟩) hT0 ?_
  try dsimp only
  try simp only [Act.put, List.getElem_toArray, List.getElem_cons_succ, List.getElem_cons_zero, List.setIfInBounds_toArray, List.set_cons_zero, List.set_cons_succ]
  refine wpAnyH_take (i := 1) (v := (.int .i64 a)) rfl (by kernel_rfl) (by kernel_rfl) (by kernel_rfl) (fun _ _ _ h => h) (Or.inl ⟨by rfl, fun wx hx => by have hx1 := hx.1; go_simp⟩) hT0 ?_
  try dsimp only
  try simp only [Act.put, List.getElem_toArray, List.getElem_cons_succ, List.getElem_cons_zero, List.setIfInBounds_toArray, List.set_cons_zero, List.set_cons_succ]
  refine wpAnyH_take (i := 2) (v := (.pointer (some ⟨bk, 0, none⟩))) rfl (by kernel_rfl) (by kernel_rfl) (by kernel_rfl) (fun _ _ _ h => h) (Or.inl ⟨by rfl, fun wx hx => by go_simp⟩) hT0 ?_
  try dsimp only
  try simp only [Act.put, List.getElem_toArray, List.getElem_cons_succ, List.getElem_cons_zero, List.setIfInBounds_toArray, List.set_cons_zero, List.set_cons_succ]
  refine wpAnyH_take (i := 3) (v := (.pointer (some ⟨bk, 0, none⟩))) rfl (by kernel_rfl) (by kernel_rfl) (by kernel_rfl) (fun _ _ _ h => h) (Or.inl ⟨by rfl, fun wx hx => by go_simp⟩) hT0 ?_
  try dsimp only
  try simp only [Act.put, List.getElem_toArray, List.getElem_cons_succ, List.getElem_cons_zero, List.setIfInBounds_toArray, List.set_cons_zero, List.set_cons_succ]
  refine wpAnyH_take (i := 4) (v := (.pointer (some ⟨bk, 1, none⟩))) rfl (by kernel_rfl) (by kernel_rfl) (by kernel_rfl) (fun _ _ _ h => h) (Or.inl ⟨by rfl, fun wx hx => by go_simp⟩) hT0 ?_
  try dsimp only
  try simp only [Act.put, List.getElem_toArray, List.getElem_cons_succ, List.getElem_cons_zero, List.setIfInBounds_toArray, List.set_cons_zero, List.set_cons_succ]
  refine wpAnyH_take (i := 5) (v := (.slice tp N tc)) rfl (by kernel_rfl) (by kernel_rfl) (by kernel_rfl) (fun _ _ _ h => h) (Or.inl ⟨by rfl, fun wx hx => by have hx1 := hx.2; go_simp⟩) hT0 ?_
  try dsimp only
  try simp only [Act.put, List.getElem_toArray, List.getElem_cons_succ, List.getElem_cons_zero, List.setIfInBounds_toArray, List.set_cons_zero, List.set_cons_succ]
  refine wpAnyH_take (i := 6) (v := (.int .i64 N)) rfl (by kernel_rfl) (by kernel_rfl) (by kernel_rfl) (fun _ _ _ h => h) (Or.inl ⟨by rfl, fun wx hx => by go_simp⟩) hT0 ?_
  try dsimp only
  try simp only [Act.put, List.getElem_toArray, List.getElem_cons_succ, List.getElem_cons_zero, List.setIfInBounds_toArray, List.set_cons_zero, List.set_cons_succ]
  refine wpAnyH_all (rs := [7]) (by kernel_rfl) (by simp) ?_
  intro jj hjj
  simp only [List.mem_cons, List.not_mem_nil, or_false] at hjj
  subst hjj
  refine wpOp_of_wp rfl rfl ?_
  go_simp
  refine (pick_any a N _ ha.1 ha.2 hN1 (by omega)).mono ?_
  rintro e wA ⟨rfl, hwA⟩
  subst hwA
  rw [HPN.out]
  refine ⟨hT0, ?_⟩
  try dsimp only
  try simp only [Act.put, List.getElem_toArray, List.getElem_cons_succ, List.getElem_cons_zero, List.setIfInBounds_toArray, List.set_cons_zero, List.set_cons_succ]
  refine wpAnyH_take (i := 8) (v := (.int .i64 n)) rfl (by kernel_rfl) (by kernel_rfl) (by kernel_rfl) (fun _ _ _ h => h) (Or.inl ⟨by rfl, fun wx hx => by go_simp⟩) hT0 ?_
  try dsimp only
  try simp only [Act.put, List.getElem_toArray, List.getElem_cons_succ, List.getElem_cons_zero, List.setIfInBounds_toArray, List.set_cons_zero, List.set_cons_succ]
  refine wpAnyH_done (by kernel_rfl) ?_ _
  clear hT0
  obtain ⟨w2, hw2⟩ : ∃ w2, w2 = w1.drew := ⟨_, rfl⟩
  have hb2 : Below w1.heap.size w1 w2 := by rw [hw2]; exact below_drew
  show Exit.then _ _ Exit.normal _ w1.drew
  rw [← hw2]
  replace c1 := cell_keep hb2 c1
  replace c2 := cell_keep hb2 c2
  replace o0 := cell_keep hb2 o0
  replace o1 := cell_keep hb2 o1
  replace o2 := cell_keep hb2 o2
  replace o3 := cell_keep hb2 o3
  replace o4 := cell_keep hb2 o4
  have HB2 : Hid (Below w.heap.size w w2) := bnext HB1.out hb2
  clear hw2 hb2
  go_upto_region 4 with (first | (go_at_call 33; refine (kleaves_any t tp N tc _ HN.out (HTR.out.below HB2.out) (by omega)).mono ?_; rintro e w3 ⟨v3, rfl, ho3, hb3⟩; obtain ⟨lp, lc, rfl⟩ : ∃ lp lc, v3 = .slice lp LN lc := (by obtain ⟨p', c', e, _⟩ := ho3.form; exact ⟨p', c', by rw [e, HLN.out]⟩); obtain ⟨gl, ol, rfl, hgl, hrl⟩ := (Own.sl (s := ⟨lp, LN, lc⟩) ho3).2.pos q (by have := HLN.out; omega); have cl : w3.cell? ⟨gl, ol + q, none⟩ = some (.int .i64 k) := (by have := hrl q _ HKQ.out 0 _ rfl; simpa using this); clear hrl ho3; replace c1 := cell_keep hb3 c1; replace c2 := cell_keep hb3 c2; replace o0 := cell_keep hb3 o0; replace o1 := cell_keep hb3 o1; replace o2 := cell_keep hb3 o2; replace o3 := cell_keep hb3 o3; replace o4 := cell_keep hb3 o4; have HB3 : Hid (Below w.heap.size w w3) := bnext HB2.out hb3; clear hb3) | (go_at_call 10; refine (pick_any a LN _ ha.1 ha.2 (by omega) (by omega)).mono ?_; rintro e wA ⟨rfl, hwA⟩; have hwA := hwA.symm; subst hwA; rw [HPQ.out]))
  go_upto_region 5 with (go_at_call 10; refine (pick_any b 20 _ hbb.1 hbb.2 (by omega) (by omega)).mono ?_; rintro e wA ⟨rfl, hwA⟩; have hwA := hwA.symm; subst hwA; rw [HPW.out])
  go_upto_region 6 with (go_at_call 10; refine (pick_any kd 8 _ hkd.1 hkd.2 (by omega) (by omega)).mono ?_; rintro e wA ⟨rfl, hwA⟩; have hwA := hwA.symm; subst hwA; rw [HKK.out])
  rename World => w3
  have HX3 : Hid (KX SR B0 bk bs t wid m D A w3 own) := HX.out.below HP.out.R HB3.out
  clear cl c1 o0 o1
  have hcs : kk = 0 ∨ kk = 1 ∨ kk = 2 ∨ kk = 3 ∨ kk = 4 ∨ kk = 5 ∨ kk = 6 ∨ kk = 7 := by omega
  clear hpk8
  rcases hcs with rfl | rfl | rfl | rfl | rfl | rfl | rfl | rfl
  · go_upto_region 7 with fail
    obtain ⟨en, hen⟩ : ∃ en, en = 20 * wid := ⟨_, rfl⟩
    have e20 : IntKind.i64.wrap (20 * wid) = en := by rw [hen]; exact IntWalk.i64_in _ ⟨by omega, by omega⟩
    have hen1 : 1 ≤ en := by omega
    have hen2 : en ≤ 20000 := by omega
    have hat := pk_bd b en hen1
    have HEN : Hid (en = 20 * wid) := hen
    clear hen
    have hT0 : (fun w' : World => w'.cell? ⟨w.heap.size, 2, none⟩ = some (.int .i64 b) ∧ w'.cell? ⟨bk, 2, none⟩ = some (.int .i64 wid)) w3.drew := ⟨o2, c2⟩
    refine wp_region_held (S := fun w' : World => w'.cell? ⟨w.heap.size, 2, none⟩ = some (.int .i64 b) ∧ w'.cell? ⟨bk, 2, none⟩ = some (.int .i64 wid)) mixed ?_
    refine wpAnyH_take (i := 0) (v := (.pointer (some ⟨w.heap.size, 2, none⟩))) rfl (by kernel_rfl) (by kernel_rfl) (by kernel_rfl) (fun _ _ _ h => h) (Or.inl ⟨by rfl, fun wx hx => by go_simp⟩) hT0 ?_
    try dsimp only
    try simp only [Act.put, List.getElem_toArray, List.getElem_cons_succ, List.getElem_cons_zero, List.setIfInBounds_toArray, List.set_cons_zero, List.set_cons_succ]
    refine wpAnyH_take (i := 1) (v := (.int .i64 b)) rfl (by kernel_rfl) (by kernel_rfl) (by kernel_rfl) (fun _ _ _ h => h) (Or.inl ⟨by rfl, fun wx hx => by have hx1 := hx.1; go_simp⟩) hT0 ?_
    try dsimp only
    try simp only [Act.put, List.getElem_toArray, List.getElem_cons_succ, List.getElem_cons_zero, List.setIfInBounds_toArray, List.set_cons_zero, List.set_cons_succ]
    refine wpAnyH_take (i := 2) (v := (.pointer (some ⟨bk, 0, none⟩))) rfl (by kernel_rfl) (by kernel_rfl) (by kernel_rfl) (fun _ _ _ h => h) (Or.inl ⟨by rfl, fun wx hx => by go_simp⟩) hT0 ?_
    try dsimp only
    try simp only [Act.put, List.getElem_toArray, List.getElem_cons_succ, List.getElem_cons_zero, List.setIfInBounds_toArray, List.set_cons_zero, List.set_cons_succ]
    refine wpAnyH_take (i := 3) (v := (.pointer (some ⟨bk, 0, none⟩))) rfl (by kernel_rfl) (by kernel_rfl) (by kernel_rfl) (fun _ _ _ h => h) (Or.inl ⟨by rfl, fun wx hx => by go_simp⟩) hT0 ?_
    try dsimp only
    try simp only [Act.put, List.getElem_toArray, List.getElem_cons_succ, List.getElem_cons_zero, List.setIfInBounds_toArray, List.set_cons_zero, List.set_cons_succ]
    refine wpAnyH_take (i := 4) (v := (.pointer (some ⟨bk, 2, none⟩))) rfl (by kernel_rfl) (by kernel_rfl) (by kernel_rfl) (fun _ _ _ h => h) (Or.inl ⟨by rfl, fun wx hx => by go_simp⟩) hT0 ?_
    try dsimp only
    try simp only [Act.put, List.getElem_toArray, List.getElem_cons_succ, List.getElem_cons_zero, List.setIfInBounds_toArray, List.set_cons_zero, List.set_cons_succ]
    refine wpAnyH_take (i := 5) (v := (.int .i64 wid)) rfl (by kernel_rfl) (by kernel_rfl) (by kernel_rfl) (fun _ _ _ h => h) (Or.inl ⟨by rfl, fun wx hx => by have hx1 := hx.2; go_simp⟩) hT0 ?_
    try dsimp only
    try simp only [Act.put, List.getElem_toArray, List.getElem_cons_succ, List.getElem_cons_zero, List.setIfInBounds_toArray, List.set_cons_zero, List.set_cons_succ]
    refine wpAnyH_take (i := 6) (v := (.int .i64 en)) rfl (by kernel_rfl) (by kernel_rfl) (by kernel_rfl) (fun _ _ _ h => h) (Or.inl ⟨by rfl, fun wx hx => by go_simp⟩) hT0 ?_
    try dsimp only
    try simp only [Act.put, List.getElem_toArray, List.getElem_cons_succ, List.getElem_cons_zero, List.setIfInBounds_toArray, List.set_cons_zero, List.set_cons_succ]
    refine wpAnyH_all (rs := [7]) (by kernel_rfl) (by simp) ?_
    intro jj hjj
    simp only [List.mem_cons, List.not_mem_nil, or_false] at hjj
    subst hjj
    refine wpOp_of_wp rfl rfl ?_
    go_simp
    refine (pick_any b en _ hbb.1 hbb.2 (by omega) (by omega)).mono ?_
    rintro e wA ⟨rfl, hwA⟩
    subst hwA
    refine ⟨hT0, ?_⟩
    try dsimp only
    try simp only [Act.put, List.getElem_toArray, List.getElem_cons_succ, List.getElem_cons_zero, List.setIfInBounds_toArray, List.set_cons_zero, List.set_cons_succ]
    refine wpAnyH_take (i := 8) (v := (.int .i64 (pk b en))) rfl (by kernel_rfl) (by kernel_rfl) (by kernel_rfl) (fun _ _ _ h => h) (Or.inl ⟨by rfl, fun wx hx => by go_simp⟩) hT0 ?_
    try dsimp only
    try simp only [Act.put, List.getElem_toArray, List.getElem_cons_succ, List.getElem_cons_zero, List.setIfInBounds_toArray, List.set_cons_zero, List.set_cons_succ]
    refine wpAnyH_done (by kernel_rfl) ?_ _
    clear hT0
    obtain ⟨w4, hw4⟩ : ∃ w4, w4 = w3.drew := ⟨_, rfl⟩
    have hb4 : Below w3.heap.size w3 w4 := by rw [hw4]; exact below_drew
    show Exit.then _ _ Exit.normal _ w3.drew
    rw [← hw4]
    replace o3 := cell_keep hb4 o3
    replace o4 := cell_keep hb4 o4
    have HB4 : Hid (Below w.heap.size w w4) := bnext HB3.out hb4
    clear hw4 hb4 c2 o2
    have HAT : Hid (0 ≤ pk b en ∧ pk b en < 20 * wid) := ⟨hat.1, by have := hat.2; have := HEN.out; omega⟩
    obtain ⟨at', hat'⟩ : ∃ at', at' = pk b en := ⟨_, rfl⟩
    rw [← hat'] at HAT ⊢
    clear hat hat' e20
    go_upto_region 8 with fail
    have hT0 : (fun w' : World => w'.cell? ⟨w.heap.size, 3, none⟩ = some (.string s) ∧ w'.cell? ⟨w.heap.size, 4, none⟩ = some (.int .i32 v)) w4.drew := ⟨o3, o4⟩
    refine wp_region_held (S := fun w' : World => w'.cell? ⟨w.heap.size, 3, none⟩ = some (.string s) ∧ w'.cell? ⟨w.heap.size, 4, none⟩ = some (.int .i32 v)) mixed ?_
    refine wpAnyH_take (i := 0) (v := (.pointer (some ⟨bk, 0, none⟩))) rfl (by kernel_rfl) (by kernel_rfl) (by kernel_rfl) (fun _ _ _ h => h) (Or.inl ⟨by rfl, fun wx hx => by go_simp⟩) hT0 ?_
    try dsimp only
    try simp only [Act.put, List.getElem_toArray, List.getElem_cons_succ, List.getElem_cons_zero, List.setIfInBounds_toArray, List.set_cons_zero, List.set_cons_succ]
    refine wpAnyH_take (i := 1) (v := (.int .i64 k)) rfl (by kernel_rfl) (by kernel_rfl) (by kernel_rfl) (fun _ _ _ h => h) (Or.inl ⟨by rfl, fun wx hx => by go_simp⟩) hT0 ?_
    try dsimp only
    try simp only [Act.put, List.getElem_toArray, List.getElem_cons_succ, List.getElem_cons_zero, List.setIfInBounds_toArray, List.set_cons_zero, List.set_cons_succ]
    refine wpAnyH_take (i := 2) (v := (.int .i64 at')) rfl (by kernel_rfl) (by kernel_rfl) (by kernel_rfl) (fun _ _ _ h => h) (Or.inl ⟨by rfl, fun wx hx => by go_simp⟩) hT0 ?_
    try dsimp only
    try simp only [Act.put, List.getElem_toArray, List.getElem_cons_succ, List.getElem_cons_zero, List.setIfInBounds_toArray, List.set_cons_zero, List.set_cons_succ]
    refine wpAnyH_take (i := 3) (v := (.pointer (some ⟨w.heap.size, 3, none⟩))) rfl (by kernel_rfl) (by kernel_rfl) (by kernel_rfl) (fun _ _ _ h => h) (Or.inl ⟨by rfl, fun wx hx => by go_simp⟩) hT0 ?_
    try dsimp only
    try simp only [Act.put, List.getElem_toArray, List.getElem_cons_succ, List.getElem_cons_zero, List.setIfInBounds_toArray, List.set_cons_zero, List.set_cons_succ]
    refine wpAnyH_take (i := 4) (v := (.string s)) rfl (by kernel_rfl) (by kernel_rfl) (by kernel_rfl) (fun _ _ _ h => h) (Or.inl ⟨by rfl, fun wx hx => by have hx1 := hx.1; go_simp⟩) hT0 ?_
    try dsimp only
    try simp only [Act.put, List.getElem_toArray, List.getElem_cons_succ, List.getElem_cons_zero, List.setIfInBounds_toArray, List.set_cons_zero, List.set_cons_succ]
    refine wpAnyH_take (i := 6) (v := (.pointer (some ⟨w.heap.size, 4, none⟩))) rfl (by kernel_rfl) (by kernel_rfl) (by kernel_rfl) (fun _ _ _ h => h) (Or.inl ⟨by rfl, fun wx hx => by go_simp⟩) hT0 ?_
    try dsimp only
    try simp only [Act.put, List.getElem_toArray, List.getElem_cons_succ, List.getElem_cons_zero, List.setIfInBounds_toArray, List.set_cons_zero, List.set_cons_succ]
    refine wpAnyH_take (i := 7) (v := (.int .i32 v)) rfl (by kernel_rfl) (by kernel_rfl) (by kernel_rfl) (fun _ _ _ h => h) (Or.inl ⟨by rfl, fun wx hx => by have hx1 := hx.2; go_simp⟩) hT0 ?_
    try dsimp only
    try simp only [Act.put, List.getElem_toArray, List.getElem_cons_succ, List.getElem_cons_zero, List.setIfInBounds_toArray, List.set_cons_zero, List.set_cons_succ]
    refine wpAnyH_all (rs := [5]) (by kernel_rfl) (by simp) ?_
    intro jj hjj
    simp only [List.mem_cons, List.not_mem_nil, or_false] at hjj
    subst hjj
    refine wpOp_of_wp rfl rfl ?_
    go_simp
    refine (kshort_any s hs _).mono ?_
    rintro e wA ⟨s', rfl, hs20, hwA⟩
    subst hwA
    refine ⟨hT0, ?_⟩
    try dsimp only
    try simp only [Act.put, List.getElem_toArray, List.getElem_cons_succ, List.getElem_cons_zero, List.setIfInBounds_toArray, List.set_cons_zero, List.set_cons_succ]
    refine wpAnyH_all (rs := [8]) (by kernel_rfl) (by simp) ?_
    intro jj hjj
    simp only [List.mem_cons, List.not_mem_nil, or_false] at hjj
    subst hjj
    refine wpOp_of_wp rfl rfl ?_
    go_simp
    obtain ⟨own2, hown2⟩ : ∃ own2 : Ghost, own2 = fun j => if j = w.heap.size then .arg else own j := ⟨_, rfl⟩
    have HOG : Hid (own2 w.heap.size = .arg) := by unfold Hid; rw [hown2]; exact if_pos rfl
    have HOW : Hid (∀ j, j < w.heap.size → own2 j = own j) := fun j hj => by rw [hown2]; exact if_neg (by omega)
    clear hown2
    refine (king_any SR HP.out.R HP.out.L w4.drew own2 B0 bk bs t wid m D A (HX.out.chg HP.out.R (bnext HB4.out below_drew) HOW.out) (by omega) k (by omega) HKL.out at' HAT.out.1 HAT.out.2 s' hs20 v v0 v1).mono ?_
    rintro e w5 ⟨rfl, hz⟩
    have HZ : Hid (∃ D' A', KN SR B0 bk bs t wid (m + 1) D' A' w own w5 ∧ ((0 : Int) ≠ 2 → (0 : Int) ≠ 3 → Kst D D')) := ⟨_, _, KN.mk (bnext HB4.out below_drew) HOW.out hz, fun _ _ => kst_ing _ _ _ _ _ _ _⟩
    have ng : own2 w.heap.size ≠ .free ∧ ¬ notA (own2 w.heap.size) := by rw [HOG.out]; exact ⟨by simp, fun h => h rfl⟩
    have hT5 : (fun w' : World => w'.cell? ⟨w.heap.size, 3, none⟩ = some (.string s) ∧ w'.cell? ⟨w.heap.size, 4, none⟩ = some (.int .i32 v)) w5 := by
      obtain ⟨_, _, _, hfr⟩ := hz
      exact ⟨cell_fr' hfr o3 ng.1 ng.2, cell_fr' hfr o4 ng.1 ng.2⟩
    clear hz
    refine ⟨hT5, ?_⟩
    try dsimp only
    try simp only [Act.put, List.getElem_toArray, List.getElem_cons_succ, List.getElem_cons_zero, List.setIfInBounds_toArray, List.set_cons_zero, List.set_cons_succ]
    refine wpAnyH_take (i := 9) (v := (.bool true)) rfl (by kernel_rfl) (by kernel_rfl) (by kernel_rfl) (fun _ _ _ h => h) (Or.inl ⟨by rfl, fun wx hx => by go_simp⟩) hT5 ?_
    try dsimp only
    try simp only [Act.put, List.getElem_toArray, List.getElem_cons_succ, List.getElem_cons_zero, List.setIfInBounds_toArray, List.set_cons_zero, List.set_cons_succ]
    refine wpAnyH_done (by kernel_rfl) ?_ _
    clear hT0 hT5 ng
    go_wp2
    go_ret
    exact ⟨rfl, HZ.out⟩
  · go_wp2_with (go_at_call 36; refine (kadv_any SR HP.out.R HP.out.L w3 own B0 bk bs t wid m D A HX3.out (by omega) k (by omega) HKL.out b hbb).mono ?_; rintro e w4 ⟨rfl, tm, _, _, _, hz⟩; have HZ : Hid (∃ D' A', KN SR B0 bk bs t wid (m + 1) D' A' w own w4 ∧ ((1 : Int) ≠ 2 → (1 : Int) ≠ 3 → Kst D D')) := ⟨_, _, (KN.mk HB3.out (fun _ _ => rfl) hz).grow (by omega), fun _ _ => kst_adv _ _ _ _ _⟩; clear hz)
    go_ret
    exact ⟨rfl, HZ.out⟩
  · go_wp2_with (go_at_call 13; refine (ksync_any SR HP.out.R HP.out.S w3 own B0 bk bs t wid m D A HX3.out (by omega) n (by omega)).mono ?_; rintro e w4 ⟨rfl, hz⟩; have HZ : Hid (∃ D' A', KN SR B0 bk bs t wid (m + 1) D' A' w own w4 ∧ ((2 : Int) ≠ 2 → (2 : Int) ≠ 3 → Kst D D')) := ⟨_, _, (KN.mk HB3.out (fun _ _ => rfl) hz).grow (by omega), fun h _ => absurd rfl h⟩; clear hz)
    go_ret
    exact ⟨rfl, HZ.out⟩
  · go_wp2_with (go_at_call 17; refine (kcrash_any SR HP.out.R HP.out.S w3 own B0 bk bs t wid m D A HX3.out (by omega) n (by omega)).mono ?_; rintro e w4 ⟨rfl, hz⟩; have HZ : Hid (∃ D' A', KN SR B0 bk bs t wid (m + 1) D' A' w own w4 ∧ ((3 : Int) ≠ 2 → (3 : Int) ≠ 3 → Kst D D')) := ⟨_, _, (KN.mk HB3.out (fun _ _ => rfl) hz).grow (by omega), fun _ h => absurd rfl h⟩; clear hz)
    go_ret
    exact ⟨rfl, HZ.out⟩
  · go_wp2_with (go_at_call 37; refine (ksend_any SR HP.out.R HP.out.D w3 own B0 bk bs t wid m D A HX3.out (by omega) n (by omega) 0 19 (by decide)).mono ?_; rintro e w4 ⟨rfl, hz⟩; have HZ : Hid (∃ D' A', KN SR B0 bk bs t wid (m + 1) D' A' w own w4 ∧ ((4 : Int) ≠ 2 → (4 : Int) ≠ 3 → Kst D D')) := ⟨_, _, KN.mk HB3.out (fun _ _ => rfl) hz, fun _ _ => Kst.refl D⟩; clear hz)
    go_ret
    exact ⟨rfl, HZ.out⟩
  · go_wp2_with (go_at_call 37; refine (ksend_any SR HP.out.R HP.out.D w3 own B0 bk bs t wid m D A HX3.out (by omega) n (by omega) wq wq (by simp [isRg]; omega)).mono ?_; rintro e w4 ⟨rfl, hz⟩; have HZ : Hid (∃ D' A', KN SR B0 bk bs t wid (m + 1) D' A' w own w4 ∧ ((5 : Int) ≠ 2 → (5 : Int) ≠ 3 → Kst D D')) := ⟨_, _, KN.mk HB3.out (fun _ _ => rfl) hz, fun _ _ => Kst.refl D⟩; clear hz)
    go_ret
    exact ⟨rfl, HZ.out⟩
  · go_wp2_with (go_at_call 38; refine (kbring_any SR HP.out.R HP.out.J w3 own B0 bk bs t wid m D A HX3.out (by omega) b hbb).mono ?_; rintro e w4 ⟨rfl, D', hbr, hz⟩; have HZ : Hid (∃ D' A', KN SR B0 bk bs t wid (m + 1) D' A' w own w4 ∧ ((6 : Int) ≠ 2 → (6 : Int) ≠ 3 → Kst D D')) := ⟨_, _, (KN.mk HB3.out (fun _ _ => rfl) hz).grow (by omega), fun _ _ => kst_br hbr⟩; clear hz)
    go_ret
    exact ⟨rfl, HZ.out⟩
  · go_wp2_with (go_at_call 39; refine (kexact_any SR HP.out.R w3 own B0 bk bs t wid m D A HX3.out (by omega)).mono ?_; rintro e w4 ⟨rfl, hz⟩; have HZ : Hid (∃ D' A', KN SR B0 bk bs t wid (m + 1) D' A' w own w4 ∧ ((7 : Int) ≠ 2 → (7 : Int) ≠ 3 → Kst D D')) := ⟨D, A, (KN.mk HB3.out (fun _ _ => rfl) (KN.same HP.out.R HX3.out hz)).grow (by omega), fun _ _ => Kst.refl D⟩; clear hz)
    go_ret
    exact ⟨rfl, HZ.out⟩
end Go.Proofs.Ytpglbakcjihohab

/-! Rounds: with each of them what the leaves know comes one node further up (no program is named here). -/
namespace Go.Proofs.Ytpglbakcjihohab
open Go.RowKit
set_option maxRecDepth 100000

/-! ### What is final stays, and comes over -/
/-- No item is newer than the last one of its leaf's window. -/
def Cap (c : Int → Int → Int) (x : It) : Prop := x.ver ≤ c x.leaf x.win ∧ (x.fin = true → x.ver = c x.leaf x.win)
def HasF (l : List It) (a b : Int) : Prop := ∃ x ∈ l, x.leaf = a ∧ x.win = b ∧ x.fin = true
theorem jin_fin (c : Int → Int → Int) (y : It) (hy : Cap c y) (a b : Int) : ∀ (l : List It), Srt l → (∀ x ∈ l, Cap c x) → (HasF l a b ∨ (y.leaf = a ∧ y.win = b ∧ y.fin = true)) → HasF (jin y l) a b
  | [], _, _, h => by
    rcases h with ⟨x, hx, _⟩ | h
    · simp at hx
    · exact ⟨y, by simp [jin], h⟩
  | z :: l, hs, hc, h => by
    have hp := List.pairwise_cons.1 hs
    unfold jin
    by_cases h1 : ahd y z = true
    · rw [if_pos h1]
      rcases h with ⟨x, hx, hk⟩ | h
      · exact ⟨x, by simp only [List.mem_cons] at hx ⊢; exact .inr hx, hk⟩
      · exact ⟨y, by simp, h⟩
    · rw [if_neg h1]
      by_cases h2 : z.leaf = y.leaf ∧ z.win = y.win
      · rw [if_pos h2]
        have cz := hc z (by simp)
        by_cases hk : y.leaf = a ∧ y.win = b
        · have hzf : (∃ x ∈ z :: l, x.leaf = a ∧ x.win = b ∧ x.fin = true) → z.fin = true := by
            rintro ⟨x, hx, e1, e2, e3⟩
            rcases List.mem_cons.1 hx with rfl | hx
            · exact e3
            · have := ahd_iff.1 (hp.1 x hx); omega
          have hcy : c y.leaf y.win = c z.leaf z.win := by rw [h2.1, h2.2]
          refine ⟨if nwr y z = true then y else z, by simp, ?_⟩
          by_cases hn : nwr y z = true
          · rw [if_pos hn]
            refine ⟨hk.1, hk.2, ?_⟩
            rcases h with h | h
            · have hz := hzf h
              have := cz.2 hz
              have := hy.1
              simp only [nwr, hz, Bool.not_true, Bool.and_false, Bool.or_false, decide_eq_true_eq] at hn
              omega
            · exact h.2.2
          · rw [if_neg hn]
            refine ⟨by omega, by omega, ?_⟩
            rcases h with h | h
            · exact hzf h
            · have e1 := hy.2 h.2.2
              have e2 := cz.1
              cases hzb : z.fin with
              | true => rfl
              | false =>
                exfalso
                apply hn
                simp only [nwr, h.2.2, hzb, Bool.not_false, Bool.and_true, Bool.or_eq_true, decide_eq_true_eq]
                omega
        · have hne : HasF (z :: l) a b := by
            rcases h with h | h
            · exact h
            · exact absurd ⟨h.1, h.2.1⟩ hk
          obtain ⟨x, hx, e1, e2, e3⟩ := hne
          refine ⟨x, ?_, e1, e2, e3⟩
          rcases List.mem_cons.1 hx with rfl | hx
          · omega
          · simp [hx]
      · rw [if_neg h2]
        have ih := jin_fin c y hy a b l hp.2 (fun x hx => hc x (by simp [hx]))
        rcases h with ⟨x, hx, hk⟩ | h
        · rcases List.mem_cons.1 hx with rfl | hx
          · exact ⟨x, by simp, hk⟩
          · obtain ⟨u, hu, hk'⟩ := ih (.inl ⟨x, hx, hk⟩)
            exact ⟨u, by simp [hu], hk'⟩
        · obtain ⟨u, hu, hk'⟩ := ih (.inr h)
          exact ⟨u, by simp [hu], hk'⟩
theorem dlv_fin (c : Int → Int → Int) (a b : Int) : ∀ (xs l : List It), Good l → AllIn xs → (∀ x ∈ l, Cap c x) → (∀ x ∈ xs, Cap c x) → (HasF l a b ∨ HasF xs a b) → HasF (xs.foldl jnd l) a b
  | [], l, _, _, _, _, h => by
    rcases h with h | ⟨x, hx, _⟩
    · exact h
    · simp at hx
  | y :: xs, l, hg, hi, hl, hx, h => by
    have hy := hx y (by simp)
    have hj := jnd_jin y l hg.srt
    simp only [List.foldl_cons]
    refine dlv_fin c a b xs (jnd l y) (hg.jnd (hi y (by simp))) (fun z hz => hi z (by simp [hz])) (fun z hz => ?_) (fun z hz => hx z (by simp [hz])) ?_
    · rcases mem_jnd y l hg.srt z hz with rfl | hz
      · exact hy
      · exact hl z hz
    · rcases h with h | ⟨x, hxx, hk⟩
      · exact .inl (by rw [hj]; exact jin_fin c y hy a b l hg.srt hl (.inl h))
      · rcases List.mem_cons.1 hxx with rfl | hxx
        · exact .inl (by rw [hj]; exact jin_fin c x hy a b l hg.srt hl (.inr hk))
        · exact .inr ⟨x, hxx, hk⟩
/-- How many stored events a leaf's window has. -/
def capD (D : List Nd) (a b : Int) : Int := (((D[a.toNat]?).map fun d => (evK d.kev b).length).getD 0 : Nat)
theorem Xct.cap {t : List Int} {D : List Nd} {x : It} (h : Xct t D x) : Cap (capD D) x := by
  obtain ⟨d, h1, h2, _, h4⟩ := h.of
  unfold Cap capD
  rw [h1]
  simp only [Option.map_some, Option.getD_some]
  exact ⟨h2, fun hf => (h4 hf).2⟩
/-! ### Nodes above -/
def dst (t : List Int) (f : Nat) : Nat → Nat → Prop
  | 0, p => p = f
  | r + 1, p => ∃ c : Nat, dst t f r c ∧ 1 ≤ c ∧ c < t.length ∧ t.getD c 0 = p
theorem dst_root {t : List Int} (hT : Tree t) (f : Nat) : ∀ (u c r : Nat), c ≤ u → c < t.length → dst t f r c → ∃ r', r' ≤ r + c ∧ dst t f r' 0
  | 0, c, r, hu, _, h => by
    obtain rfl : c = 0 := by omega
    exact ⟨r, by omega, h⟩
  | u + 1, c, r, hu, hc, h => by
    rcases Nat.eq_zero_or_pos c with rfl | hp
    · exact ⟨r, by omega, h⟩
    · have hup := hT.up c hp hc
      obtain ⟨r', h1, h2⟩ := dst_root hT f u (t.getD c 0).toNat (r + 1) (by omega) (by omega) ⟨c, h, hp, hc, by omega⟩
      exact ⟨r', by omega, h2⟩
/-- All leaves are closed. -/
def AllC (t : List Int) (D : List Nd) : Prop := ∀ (k : Nat) (d : Nd), D[k]? = some d → isLf t k = true → ∀ v : Nat, v < 20 → d.lcl v = true
/-- What the leaves know in the end has come up so far. -/
def Rd (t : List Int) (D : List Nd) (r : Nat) : Prop := ∀ (f r' p : Nat), r' ≤ r → f < t.length → isLf t f = true → dst t f r' p → ∀ v : Nat, v < 20 → HasF (lvAt t D p) f v
theorem rd_zero {t : List Int} {D : List Nd} {A : List (Int × List It)} (h : Inv t D A) (hc : AllC t D) : Rd t D 0 := fun f r' p hr hf hl hd v hv => by
  obtain rfl : r' = 0 := by omega
  obtain rfl : p = f := hd
  have hld := h.ld
  have hd : D[p]? = some (D[p]'(by omega)) := List.getElem?_eq_getElem _
  rw [lvAt_eq hf hd]
  unfold lvg
  rw [if_pos hl]
  have hcl := hc p _ hd hl v hv
  refine ⟨itOf p (D[p]'(by omega)).lev (D[p]'(by omega)).lcl v, ?_, rfl, rfl, hcl⟩
  unfold known knownTo
  refine List.mem_map.2 ⟨v, List.mem_filter.2 ⟨by simpa using hv, ?_⟩, rfl⟩
  unfold has
  rw [hcl]; simp
/-! ### A round, node by node -/
theorem lv_syn (t : List Int) (D : List Nd) (n p : Nat) : lvAt t (synD t D n) p = lvAt t D p := by
  unfold synD
  split
  · split
    · rename_i d hd
      rw [Int.toNat_natCast] at hd ⊢
      unfold lvAt
      split
      · rw [Int.toNat_natCast, List.getElem?_set]
        split
        · rename_i e
          subst e
          rw [hd, if_pos (List.getElem?_eq_some_iff.1 hd).1]
          rfl
        · rfl
      · rfl
    · rfl
  · rfl
theorem allC_syn {t : List Int} {D : List Nd} (h : AllC t D) (n : Nat) : AllC t (synD t D n) := by
  unfold synD
  split
  · split
    · rename_i d hd
      intro k e he
      rcases set_some he with ⟨rfl, rfl⟩ | ⟨_, he⟩
      · exact h _ d hd
      · exact h k e he
    · exact h
  · exact h
theorem allC_del {t : List Int} {D : List Nd} (h : AllC t D) (n fr : Int) (l : List It) : AllC t (delD t D n fr l) := by
  unfold delD
  split
  · split
    · rename_i d hd
      intro k e he
      rcases set_some he with ⟨rfl, rfl⟩ | ⟨_, he⟩
      · exact h _ d hd
      · exact h k e he
    · exact h
  · exact h
/-- What a node that was just stored sends is all that it shows. -/
theorem snd_syn {t : List Int} {D : List Nd} {A : List (Int × List It)} (h : Inv t D A) {n : Nat} (hn : n < t.length) (h0 : n ≠ 0) (x : It) (hx : x ∈ lvAt t D n) (hw : 0 ≤ x.win ∧ x.win < 20) : x ∈ sndL t (synD t D n) n 0 19 := by
  have hld := h.ld
  have hnd : isNd t n = true := by simp [isNd]; omega
  have hd : D[n]? = some (D[n]'(by omega)) := List.getElem?_eq_getElem _
  have hE : sndE t n 0 19 = 0 := by unfold sndE; rw [if_pos hnd, if_neg (by omega), if_pos (by decide)]
  unfold sndL
  rw [if_pos hE]
  unfold synD
  rw [if_pos hnd]
  simp only [Int.toNat_natCast, hd, List.getElem?_set_self (show n < D.length by omega), Option.map_some, Option.getD_some]
  rw [lvAt_eq hn hd] at hx
  refine List.mem_filter.2 ⟨?_, by simp only [inRg, decide_eq_true_eq]; omega⟩
  unfold lvg at hx
  unfold std
  exact hx
/-- A node's coming over. -/
theorem del_lv {t : List Int} (hT : Tree t) {D : List Nd} {A : List (Int × List It)} (h : Inv t D A) {p : Int × List It} (hp : p ∈ A) (k : Nat) (hk : k < t.length) (a b : Int) (ha : HasF (lvAt t D k) a b ∨ ((k : Int) = t.getD p.1.toNat 0 ∧ HasF p.2 a b)) : HasF (lvAt t (delD t D (t.getD p.1.toNat 0) p.1 p.2) k) a b := by
  have h8 := hT.le
  have hld := h.ld
  obtain ⟨p1, p2, pg, px⟩ := h.pk p hp
  have hnd : isNd t p.1 = true := by simp only [isNd, decide_eq_true_eq]; omega
  have hup := hT.up p.1.toNat (by omega) (by omega)
  obtain ⟨u, hu⟩ : ∃ u : Nat, t.getD p.1.toNat 0 = u := ⟨(t.getD p.1.toNat 0).toNat, by omega⟩
  have hfair := fair_pk h hp
  rw [hu] at ha hfair hup ⊢
  have hul : u < t.length := by omega
  have hE : delE t u p.1 p.2 = 0 := by unfold delE; rw [if_pos (by simp [isNd]; omega), if_pos hfair]
  have hd : D[u]? = some (D[u]'(by omega)) := List.getElem?_eq_getElem _
  unfold delD
  rw [if_pos hE]
  simp only [Int.toNat_natCast, hd]
  have hin : AllIn p.2 := fun x hx => ⟨pg.ok.mem hx, pg.inb x hx⟩
  have hulf : isLf t u = false := by
    unfold isLf
    simp only [decide_eq_false_iff_not, Classical.not_not]
    have hlt : p.1.toNat < t.length := by omega
    rw [← hu]
    simp only [List.getD, List.getElem?_eq_getElem hlt, Option.getD_some]
    exact List.getElem_mem _
  by_cases e : u = k
  · subst e
    have hset : (D.set u { (D[u]'(by omega)) with items := p.2.foldl jnd (D[u]'(by omega)).items })[u]? = some { (D[u]'(by omega)) with items := p.2.foldl jnd (D[u]'(by omega)).items } := List.getElem?_set_self (by omega)
    rw [lvAt_eq hk hset]
    rw [lvAt_eq hk hd] at ha
    unfold lvg at ha ⊢
    rw [if_neg (by rw [hulf]; simp)] at ha ⊢
    refine dlv_fin (capD D) a b p.2 _ (h.gd u _ hd).1 hin (fun x hx => (h.it u _ hd x (.inl hx)).1.cap) (fun x hx => (px x hx).1.cap) ?_
    rcases ha with ha | ha
    · exact .inl ha
    · exact .inr ha.2
  · have hko : D[k]? = some (D[k]'(by omega)) := List.getElem?_eq_getElem _
    have hk' : (D.set u { (D[u]'(by omega)) with items := p.2.foldl jnd (D[u]'(by omega)).items })[k]? = some (D[k]'(by omega)) := by rw [List.getElem?_set_ne e]; exact hko
    rw [lvAt_eq hk hk']
    rw [lvAt_eq hk hko] at ha
    rcases ha with ha | ha
    · exact ha
    · exact absurd (by omega) e
/-- What holds within a round, behind the first j nodes. -/
structure Rj (t : List Int) (D : List Nd) (r j : Nat) : Prop where
  c : AllC t D
  rd : Rd t D r
  up : ∀ m : Nat, 1 ≤ m → m < j → m < t.length → ∀ (f r' : Nat), r' ≤ r → f < t.length → isLf t f = true → dst t f r' m → ∀ v : Nat, v < 20 → HasF (lvAt t D (t.getD m 0)) f v
theorem rj_start {t : List Int} {D : List Nd} {r : Nat} (hc : AllC t D) (h : Rd t D r) : Rj t D r 0 := ⟨hc, h, fun m _ hm => by omega⟩
theorem rj_end {t : List Int} {D : List Nd} {r j : Nat} (hj : t.length ≤ j) (h : Rj t D r j) : Rd t D (r + 1) := fun f r' p hr hf hl hd v hv => by
  by_cases e : r' ≤ r
  · exact h.rd f r' p e hf hl hd v hv
  · obtain rfl : r' = r + 1 := by omega
    obtain ⟨c, h1, h2, h3, h4⟩ := hd
    rw [← h4]
    exact h.up c h2 (by omega) h3 f r (Nat.le_refl _) hf hl h1 v hv
theorem rj_syn {t : List Int} {D : List Nd} {r j : Nat} (hT : Tree t) (h : Rj t D r j) (n : Nat) : Rj t (synD t D n) r j := by
  refine ⟨allC_syn h.c n, fun f r' p a b c d v hv => ?_, fun m m1 m2 m3 f r' a b c d v hv => ?_⟩
  · rw [lv_syn]; exact h.rd f r' p a b c d v hv
  · have hup := hT.up m m1 m3
    have e : t.getD m 0 = ((t.getD m 0).toNat : Nat) := by omega
    have := h.up m m1 m2 m3 f r' a b c d v hv
    rw [e] at this ⊢
    rw [lv_syn]; exact this
theorem dst_lt {t : List Int} {f : Nat} (hT : Tree t) (hf : f < t.length) : ∀ (r p : Nat), dst t f r p → p < t.length
  | 0, p, h => by obtain rfl : p = f := h; exact hf
  | r + 1, p, ⟨c, _, h2, h3, h4⟩ => by have := hT.up c h2 h3; omega
theorem rj_root {t : List Int} {D : List Nd} {r : Nat} (h : Rj t D r 0) : Rj t D r 1 := ⟨h.c, h.rd, fun m m1 m2 => by omega⟩
/-- The j-th node has sent. -/
theorem rj_next {t : List Int} (hT : Tree t) {D : List Nd} {A : List (Int × List It)} {r j : Nat} (hj0 : j ≠ 0) (hj : j < t.length) (h : Rj t D r j) (hi : Inv t D A) (hi2 : Inv t (synD t D j) (A ++ [((j : Int), sndL t (synD t D j) j 0 19)])) :
    Rj t (delD t (synD t D j) (t.getD j 0) j (sndL t (synD t D j) j 0 19)) r (j + 1) := by
  have hr := rj_syn hT h j
  have hup0 := hT.up j (by omega) hj
  have key := fun (k : Nat) (hk : k < t.length) (a b : Int) (ha : HasF (lvAt t (synD t D j) k) a b ∨ ((k : Int) = t.getD j 0 ∧ HasF (sndL t (synD t D j) j 0 19) a b)) =>
    del_lv hT hi2 (p := ((j : Int), sndL t (synD t D j) j 0 19)) (by simp) k hk a b (by simpa using ha)
  simp only [Int.toNat_natCast] at key
  refine ⟨allC_del hr.c _ _ _, fun f r' p a b c d v hv => key p (dst_lt hT b r' p d) f v (.inl (hr.rd f r' p a b c d v hv)), fun m m1 m2 m3 f r' a b c d v hv => ?_⟩
  have hup := hT.up m m1 m3
  have e : t.getD m 0 = ((t.getD m 0).toNat : Nat) := by omega
  by_cases em : m = j
  · subst em
    have hz : HasF (sndL t (synD t D m) m 0 19) f v := by
      obtain ⟨x, hx, e1, e2, e3⟩ := h.rd f r' m a b c d v hv
      exact ⟨x, snd_syn hi hj hj0 x hx (by rw [e2]; omega), e1, e2, e3⟩
    have := key (t.getD m 0).toNat (by omega) f v (.inr ⟨e.symm, hz⟩)
    rw [← e] at this
    exact this
  · have h1 := hr.up m m1 (by omega) m3 f r' a b c d v hv
    rw [e] at h1
    have := key (t.getD m 0).toNat (by omega) f v (.inl h1)
    rw [← e] at this
    exact this
/-- Eight rounds are enough. -/
theorem rd_root {t : List Int} (hT : Tree t) {D : List Nd} (h : Rd t D 8) : ∀ k v : Nat, k < t.length → isLf t k = true → v < 20 → ∃ x ∈ lvAt t D 0, x.leaf = k ∧ x.win = v ∧ x.fin = true := fun k v hk hl hv => by
  have h8 := hT.le
  obtain ⟨r', h1, h2⟩ := dst_root hT k k k 0 (Nat.le_refl _) hk rfl
  exact h k r' 0 (by omega) hk hl h2 v hv
theorem lvs_lvU {t : List Int} (hT : Tree t) : ∀ j, j ≤ t.length → (lvsTo t j).length = lvU t 0 j
  | 0, _ => by simp [lvsTo, lvU]
  | j + 1, hj => by
    rw [lvU_succ, under_root hT (j + 1) j (by omega) (by omega), ← lvs_lvU hT j (by omega)]
    cases hl : isLf t j with
    | true => rw [lvsTo_yes t j hl]; simp
    | false => rw [lvsTo_no t j hl]; simp
theorem Inv.drop {t : List Int} {D : List Nd} {A B : List (Int × List It)} (h : Inv t D (A ++ B)) : Inv t D A := ⟨h.ld, h.pre, h.cl, h.inn, h.it, h.gd, fun p hp => h.pk p (by simp [hp])⟩
/-- A leaf goes on to the End. -/
theorem adv_end {t : List Int} {wid : Int} {D : List Nd} {k : Nat} {d : Nd} (hd : D[k]? = some d) (hk : k < t.length) (hl : isLf t k = true) (hw : 1 ≤ wid) (hm : d.lmk ≤ 20 * wid) : advD t wid D k (20 * wid) = D.set k { d with lmk := 20 * wid, lcl := clTo d.lcl wid (20 * wid) 20 } := by
  have hlv : wrg t k = 0 := by unfold wrg; rw [if_pos (by simp [isNd]; omega), if_pos hl]
  have e : ((D[((k : Int)).toNat]?).map fun d => d.lmk).getD 0 = d.lmk := by simp [hd]
  have hE : advE t wid D k (20 * wid) = 0 := by unfold advE; rw [if_pos hlv, if_neg (by rw [e]; omega)]
  unfold advD
  rw [if_pos hE]
  simp [hd]
theorem clTo_done (cl : Nat → Bool) (wid : Int) (hw : 1 ≤ wid) (v : Nat) (hv : v < 20) : clTo cl wid (20 * wid) 20 v = true := by
  unfold clTo
  rw [if_pos]
  refine ⟨hv, Int.mul_le_mul_of_nonneg_right (by omega) (by omega)⟩
end Go.Proofs.Ytpglbakcjihohab

/-! What all nodes show: a look, and two looks held against one another. -/
namespace Go.Proofs.Ytpglbakcjihohab
open Go.RowKit
set_option maxRecDepth 100000

/-! ### Lists of answers -/
abbrev clAn : Cl An := ⟨An.cells, 30, by decide, An.len, An.one⟩
theorem slAn : SlT Try.prog clAn 44 61 56 := ⟨Try.underlying44, by kernel_rfl⟩
theorem info_an' (x : An) : (Try.prog.info? 61).map (·.size) = some x.cells.length := by rw [x.len]; kernel_rfl
theorem neqop_an {A : Array Value} {x : An} (hA : IsAn A x) (ok : x.Ok) (w : World) : (binOp .neq 61 (.agg A) (.agg A)).run Try.prog w = .ok (.bool false) w := by
  rw [run_neq_struct, eq_an hA ok]; rfl
section
variable {ops : Array Oper} {rest : List Oper} {o : Oper} {a : Act} {w : World}
theorem still_load_an_mid {Q : Act → Prop} (hw : Region.wanted o (yielded ops a.tmps) = true) (x : Operand) (ho : o.op = .load 61 x) (g off : Nat) (hx : a.eval x = .pointer (some ⟨g, off, none⟩)) (A : Array Value) (s : An) (hA : IsAn A s)
    (hg : w.rangeAt g off s.cells) (h : wpStill Try.prog ops w Q rest (a.put o.dst (.agg A))) : wpStill Try.prog ops w Q (o :: rest) a :=
  wpStill_step fun _ hK => by
    have e : A = s.cells.toArray := by rw [← show A.toList = s.cells from hA]
    subst e
    rw [if_pos hw]
    unfold Oper.still execOp
    simp only [ho, hx, Instr.loadAt, Instr.sureAddr, Sem.run_bind, Sem.run_pure, Result.andThen_ok, run_loadVar_mid w g off _ s.cells _ hg Try.underlying61 rfl (info_an' s), Oper.stillUpon]
    exact ⟨trivial, hK _ h⟩
theorem still_neq_an {Q : Act → Prop} (hw : Region.wanted o (yielded ops a.tmps) = true) (x y : Operand) (t' : TypeId) (ho : o.op = .binOp .neq 61 x y t') (A : Array Value) (s : An) (hA : IsAn A s) (ok : s.Ok) (hx : a.eval x = .agg A) (hy : a.eval y = .agg A)
    (h : wpStill Try.prog ops w Q rest (a.put o.dst (.bool false))) : wpStill Try.prog ops w Q (o :: rest) a :=
  wpStill_step fun _ hK => by
    rw [if_pos hw]
    unfold Oper.still execOp
    simp only [ho, hx, hy, Sem.run_bind, run_eqGuard_agg w .neq _ x y A A guard_an, Result.andThen_ok, neqop_an hA ok, Sem.run_pure, Oper.stillUpon]
    exact ⟨trivial, hK _ h⟩
theorem still_eql_an {Q : Act → Prop} (hw : Region.wanted o (yielded ops a.tmps) = true) (x y : Operand) (t' : TypeId) (ho : o.op = .binOp .eql 61 x y t') (A : Array Value) (s : An) (hA : IsAn A s) (ok : s.Ok) (hx : a.eval x = .agg A) (hy : a.eval y = .agg A)
    (h : wpStill Try.prog ops w Q rest (a.put o.dst (.bool true))) : wpStill Try.prog ops w Q (o :: rest) a :=
  wpStill_step fun _ hK => by
    rw [if_pos hw]
    unfold Oper.still execOp
    simp only [ho, hx, hy, Sem.run_bind, run_eqGuard_agg w .eql _ x y A A guard_an, Result.andThen_ok, eqlop_an hA ok, Sem.run_pure, Oper.stillUpon]
    exact ⟨trivial, hK _ h⟩
variable {Q : Exit → Act → World → Prop}
theorem build1_an (hgd : o.guard = none) (x : Operand) (ho : o.op = .buildSlice 44 1 #[(0, x)]) (A : Array Value) (s : An) (hA : IsAn A s) (hx : a.eval x = .agg A)
    (h : RowsAt clAn (w.alloc (.cells (flat clAn [s]).toArray 61)) (some ⟨w.heap.size, 0, none⟩) [s] → wpList Try.prog ops Q rest (a.put o.dst (.slice (some ⟨w.heap.size, 0, none⟩) 1 1)) (w.alloc (.cells (flat clAn [s]).toArray 61))) : wpList Try.prog ops Q (o :: rest) a w :=
  wpList_buildCl hgd _ _ 56 slAn 1 _ ho [.agg A] [s] (by simp [hx]) (by show [A.toList] = [s.cells]; rw [show A.toList = s.cells from hA]) rfl (by decide) (by decide) h
theorem append_an (hgd : o.guard = none) (s x : Operand) (ho : o.op = .call { callee := .builtin .append, args := #[s, x], argTypes := #[44, 44] }) (base : Nat) (v : Value) (l : List An) (hs : a.eval s = v) (hown : Own clAn w base 61 v l)
    (p : Option Addr) (m c : Nat) (ms : List An) (hx : a.eval x = .slice p m c) (hm : ms.length = m) (hg : RowsAt clAn w p ms) (hpos : 0 < m) (hl : l.length + m ≤ 1000000000) (hbase : base ≤ w.heap.size)
    (h : ∀ v' w', Own clAn w' base 61 v' (l ++ ms) → w.grownBy w' v.ownBlock → (v'.ownBlock = v.ownBlock ∨ v'.ownBlock = some w.heap.size) → (∃ g cap, v' = .slice (some ⟨g, 0, none⟩) (l ++ ms).length cap) → wpList Try.prog ops Q rest (a.put o.dst v') w') : wpList Try.prog ops Q (o :: rest) a w :=
  wpList_append_cl hgd s x _ _ 56 ho slAn base v l hs hown p m c ms hx hm hg hpos (by simp only [maxLen]; omega) (by omega) hbase fun v' w' h1 _ h2 h3 h4 => h v' w' h1 h2 (by rcases h3 with h3 | h3; exact .inl h3; exact .inr h3.1) h4
theorem append_int' (hgd : o.guard = none) (s x : Operand) (ho : o.op = .call { callee := .builtin .append, args := #[s, x], argTypes := #[22, 22] }) (base : Nat) (v : Value) (l : List Int) (hs : a.eval s = v) (hown : Own clInt w base 3 v l)
    (p : Option Addr) (m c : Nat) (ms : List Int) (hx : a.eval x = .slice p m c) (hm : ms.length = m) (hg : RowsAt clInt w p ms) (hpos : 0 < m) (hl : l.length + m ≤ 1000000000) (hbase : base ≤ w.heap.size)
    (h : ∀ v' w', Own clInt w' base 3 v' (l ++ ms) → w.grownBy w' v.ownBlock → (v'.ownBlock = v.ownBlock ∨ v'.ownBlock = some w.heap.size) → (∃ g cap, v' = .slice (some ⟨g, 0, none⟩) (l ++ ms).length cap) → wpList Try.prog ops Q rest (a.put o.dst v') w') : wpList Try.prog ops Q (o :: rest) a w :=
  wpList_append_cl hgd s x _ _ 8 ho slInt base v l hs hown p m c ms hx hm hg hpos (by simp only [maxLen]; omega) (by omega) hbase fun v' w' h1 _ h2 h3 h4 => h v' w' h1 h2 (by rcases h3 with h3 | h3; exact .inl h3; exact .inr h3.1) h4
/-! ### A look's four cells -/
theorem info_lk : (Try.prog.info? 46).map (·.size) = some 4 := by kernel_rfl
theorem zero_lk : (Try.prog.info? 46).bind (·.zero) = some (.agg #[.slice none 0 0, .slice none 0 0, .slice none 0 0, .bool false]) := by kernel_rfl
theorem alloc_lk (hgd : o.guard = none) (ho : o.op = .alloc 46)
    (h : wpList Try.prog ops Q rest (a.put o.dst (.pointer (some ⟨w.heap.size, 0, none⟩))) (w.alloc (.cells #[.slice none 0 0, .slice none 0 0, .slice none 0 0, .bool false] 46))) : wpList Try.prog ops Q (o :: rest) a w :=
  wpList_alloc_z hgd _ ho _ zero_lk h
theorem load_lk (hgd : o.guard = none) (x : Operand) (ho : o.op = .load 46 x) (g : Nat) (hx : a.eval x = .pointer (some ⟨g, 0, none⟩)) (a0 a1 a2 a3 : Value)
    (hg : w.heap[g]? = some (.cells #[a0, a1, a2, a3] 46)) (h : wpList Try.prog ops Q rest (a.put o.dst (.agg #[a0, a1, a2, a3])) w) : wpList Try.prog ops Q (o :: rest) a w :=
  wpList_load_row hgd _ x ho g hx _ _ (0, 0) _ hg Try.underlying46 rfl info_lk h
theorem store_lk {c : Array Value} {g : Nat} (hgd : o.guard = none) (x y : Operand) (ho : o.op = .store 46 x y) (s0 s1 s2 : Sl) (b : Bool)
    (hx : a.eval x = .pointer (some ⟨g, 0, none⟩)) (hy : a.eval y = .agg #[s0.val, s1.val, s2.val, .bool b]) (hg : w.heap[g]? = some (.cells c 46)) (hc : c.size = 4)
    (h : wpList Try.prog ops Q rest (a.put o.dst undef) (w.setRow g #[s0.val, s1.val, s2.val, .bool b])) : wpList Try.prog ops Q (o :: rest) a w :=
  wpList_store_row hgd _ x y ho g #[s0.val, s1.val, s2.val, .bool b] hx hy _ c hg info_lk (by rw [hc]; rfl) (by simp [Value.oneCell', Sl.val]) h
theorem store_lk_new (hgd : o.guard = none) (x y : Operand) (ho : o.op = .store 46 x y) (s0 s1 s2 : Sl) (b : Bool) (w0 : World) (c : Array Value) (hc : c.size = 4) (hw : w = w0.alloc (.cells c 46))
    (hx : a.eval x = .pointer (some ⟨w0.heap.size, 0, none⟩)) (hy : a.eval y = .agg #[s0.val, s1.val, s2.val, .bool b])
    (h : wpList Try.prog ops Q rest (a.put o.dst undef) ((w0.alloc (.cells c 46)).setRow w0.heap.size #[s0.val, s1.val, s2.val, .bool b])) : wpList Try.prog ops Q (o :: rest) a w := by
  subst hw
  exact store_lk hgd x y ho s0 s1 s2 b hx hy (heap_alloc_new _ _) hc h
end
theorem results_lk {fn : Func} {p : Tmp} (h : fn.results = #[.cell p 46]) (tmps : Array Value) (w : World) (g : Nat) (a0 a1 a2 a3 : Value)
    (hp : tmps.getD p undef = .pointer (some ⟨g, 0, none⟩)) (hg : w.heap[g]? = some (.cells #[a0, a1, a2, a3] 46)) : (results fn tmps).run Try.prog w = .ok (.agg #[a0, a1, a2, a3]) w :=
  results_cell_row h tmps w g _ _ (0, 0) _ hp hg Try.underlying46 rfl info_lk
/-! ### A look that is being made -/
structure LkD (w wr : World) (og : Ghost) (vi vm va : Sl) (S : List Sl) (M : List Int) (Q : List An) (I : List (List It)) : Prop where
  bel : Below w.heap.size w wr
  blk : wr.heap[w.heap.size + 1]? = some (.cells #[vi.val, vm.val, va.val, .bool true] 46)
  gm : og (w.heap.size + 1) = .gm
  res : wr.heap[w.heap.size]? = some (.cells #[.slice none 0 0, .slice none 0 0, .slice none 0 0, .bool false] 46)
  gr : og w.heap.size = .ld
  oi : Own clSl wr w.heap.size 32 vi.val S
  ti : TgV og vi.val .bL
  om : Own clInt wr w.heap.size 3 vm.val M
  tm : TgV og vm.val .bT
  oa : Own clAn wr w.heap.size 61 va.val Q
  ta : TgV og va.val .bI
  ls : S.length = I.length
  it : ∀ (j : Nat) (s : Sl) (x : List It), S[j]? = some s → I[j]? = some x → x.length = s.n ∧ RowsAt clIt wr s.p x ∧ ∀ b off, s.p = some ⟨b, off, none⟩ → w.heap.size ≤ b ∧ b < wr.heap.size ∧ og b = .ldI
section
variable {w wr : World} {og : Ghost} {vi vm va : Sl} {S : List Sl} {M : List Int} {Q : List An} {I : List (List It)}
theorem LkD.below (h : LkD w wr og vi vm va S M Q I) {w' : World} (hb : Below wr.heap.size wr w') : LkD w w' (fun k => if k < wr.heap.size then og k else .ldI) vi vm va S M Q I := by
  have l0 := lt_of_blk h.res
  have l1 := lt_of_blk h.blk
  refine ⟨bnext h.bel hb, keep hb h.blk, ?_, keep hb h.res, ?_, h.oi.below hb, fun k hk => ?_, h.om.below hb, fun k hk => ?_, h.oa.below hb, fun k hk => ?_, h.ls, fun j s x hs hx => ?_⟩
  · show (if _ then _ else _) = _; rw [if_pos l1]; exact h.gm
  · show (if _ then _ else _) = _; rw [if_pos l0]; exact h.gr
  · show (if _ then _ else _) = _; rw [if_pos (h.oi.lt k hk).2]; exact h.ti k hk
  · show (if _ then _ else _) = _; rw [if_pos (h.om.lt k hk).2]; exact h.tm k hk
  · show (if _ then _ else _) = _; rw [if_pos (h.oa.lt k hk).2]; exact h.ta k hk
  · obtain ⟨a, b, c⟩ := h.it j s x hs hx
    refine ⟨a, b.below hb, fun b off e => ?_⟩
    obtain ⟨c1, c2, c3⟩ := c b off e
    exact ⟨c1, Nat.lt_of_lt_of_le c2 hb.size, by rw [if_pos c2]; exact c3⟩
theorem lk_fr {w1 w2 : World} {v v' : Value} {gl i : Nat} {T : Tag} (g : w1.grownBy w2 v.ownBlock) (tv : TgV og v T) (hg : og gl = .gm) : Fr og (fun t => t = .gm ∨ t = T) w1 (w2.setCell ⟨gl, i, none⟩ v') :=
  ⟨g.os, g.tape, g.output, by simp; exact g.size, fun k hk hf hn => by
    have n1 : k ≠ gl := fun e => hn (by rw [e, hg]; exact .inl rfl)
    rw [heap_setCell_other _ _ _ _ (by show k ≠ gl; exact n1), g.block k hk (fun e => hn (.inr (tv k e.symm)))]⟩
theorem lk_same {w1 : World} {v v' : Value} {T : Tag} (t1 : v'.ownBlock = v.ownBlock ∨ v'.ownBlock = some w1.heap.size) (tv : TgV og v T) : Same w1 og (fun k => if v'.ownBlock = some k then T else og k) := fun k hk hf => by
  by_cases e : v'.ownBlock = some k
  · simp only [if_pos e]
    rcases t1 with a | a
    · exact (tv k (a ▸ e)).symm
    · rw [a] at e; have := Option.some.inj e; omega
  · simp only [if_neg e]
theorem lk_bel {w1 w2 : World} {v v' : Value} {i : Nat} (hb : Below w.heap.size w w1) (g : w1.grownBy w2 v.ownBlock) (hv : ∀ k, v.ownBlock = some k → w.heap.size ≤ k) : Below w.heap.size w (w2.setCell ⟨w.heap.size + 1, i, none⟩ v') :=
  ⟨g.os.trans hb.os, g.tape.trans hb.tape, g.output.trans hb.output, by have := hb.size; have := g.size; simp; omega, fun k hk => by
    have := hb.size
    rw [heap_setCell_other _ _ _ _ (by show k ≠ w.heap.size + 1; omega), g.block k (by omega) (fun e => by have := hv k e.symm; omega), hb.block k hk]⟩
theorem lk_blk {w1 w2 : World} {v v' : Value} {T : Tag} {i : Nat} {c : Array Value} {e : TypeId} (hg : og (w.heap.size + 1) = .gm) (hT : T ≠ .gm) (tv : TgV og v T) (hb : w1.heap[w.heap.size + 1]? = some (.cells c e)) (g : w1.grownBy w2 v.ownBlock) : (w2.setCell ⟨w.heap.size + 1, i, none⟩ v').heap[w.heap.size + 1]? = some (.cells (c.setIfInBounds i v') e) := by
  have e1 : w2.heap[w.heap.size + 1]? = some (.cells c e) := (g.block _ (lt_of_blk hb) (fun e => hT ((tv _ e.symm).symm.trans hg))).trans hb
  rw [heap_setCell_same _ _ _ _ _ _ e1]
theorem LkD.appI (h : LkD w wr og vi vm va S M Q I) {w2 : World} (s : Sl) (x : List It) (hx : x.length = s.n ∧ RowsAt clIt wr s.p x ∧ ∀ b off, s.p = some ⟨b, off, none⟩ → w.heap.size ≤ b ∧ b < wr.heap.size ∧ og b = .ldI) (v' : Sl) (o1 : Own clSl w2 w.heap.size 32 v'.val (S ++ [s])) (g1 : wr.grownBy w2 vi.val.ownBlock) (t1 : v'.val.ownBlock = vi.val.ownBlock ∨ v'.val.ownBlock = some wr.heap.size) :
    LkD w (w2.setCell ⟨w.heap.size + 1, 0, none⟩ v'.val) (fun k => if v'.val.ownBlock = some k then .bL else og k) v' vm va (S ++ [s]) M Q (I ++ [x]) := by
  have fr := lk_fr (i := 0) (v' := v'.val) g1 h.ti h.gm
  have sm := lk_same (w1 := wr) t1 h.ti
  have l0 := lt_of_blk h.res
  have l1 := lt_of_blk h.blk
  refine ⟨lk_bel h.bel g1 (fun k hk => (h.oi.lt k hk).1), lk_blk h.gm (by simp) h.ti h.blk g1, ?_, ?_, ?_, ?_, fun k hk => if_pos hk, h.om.fr fr h.tm (by simp) (by simp), h.tm.own sm h.om (by simp), h.oa.fr fr h.ta (by simp) (by simp), h.ta.own sm h.oa (by simp), by simp [h.ls], fun j u y hu hy => ?_⟩
  · exact (sm _ l1 (by rw [h.gm]; simp)).trans h.gm
  · rw [fr.block _ l0 (by rw [h.gr]; simp) (by rw [h.gr]; simp)]; exact h.res
  · exact (sm _ l0 (by rw [h.gr]; simp)).trans h.gr
  · refine o1.chg fun k hk => heap_setCell_other _ _ _ _ (by
      show k ≠ w.heap.size + 1
      intro e
      rcases t1 with a | a
      · have := h.ti k (a ▸ hk); rw [e, h.gm] at this; simp at this
      · rw [a] at hk; have := Option.some.inj hk; omega)
  · have key : y.length = u.n ∧ RowsAt clIt wr u.p y ∧ ∀ b off, u.p = some ⟨b, off, none⟩ → w.heap.size ≤ b ∧ b < wr.heap.size ∧ og b = .ldI := by
      rcases Nat.lt_or_ge j S.length with hj | hj
      · rw [List.getElem?_append_left hj] at hu
        rw [List.getElem?_append_left (by rw [← h.ls]; exact hj)] at hy
        exact h.it j u y hu hy
      · rw [List.getElem?_append_right hj] at hu
        rw [List.getElem?_append_right (by rw [← h.ls]; exact hj), ← h.ls] at hy
        have h0 : j - S.length = 0 := by
          have := (List.getElem?_eq_some_iff.1 hu).1
          simp at this; omega
        rw [h0] at hu hy
        simp at hu hy
        subst hu hy
        exact hx
    obtain ⟨a, b, c⟩ := key
    refine ⟨a, b.chg fr.size fun b off e => ?_, fun b off e => ?_⟩
    · obtain ⟨c1, c2, c3⟩ := c b off e
      exact fr.block b c2 (by rw [c3]; simp) (by rw [c3]; simp)
    · obtain ⟨c1, c2, c3⟩ := c b off e
      exact ⟨c1, Nat.lt_of_lt_of_le c2 fr.size, (sm b c2 (by rw [c3]; simp)).trans c3⟩
theorem LkD.itFr (h : LkD w wr og vi vm va S M Q I) {w2 : World} {og' : Ghost} {T : Tag} (fr : Fr og (fun t => t = .gm ∨ t = T) wr w2) (sm : Same wr og og') (hT : T ≠ .ldI) : ∀ (j : Nat) (s : Sl) (x : List It), S[j]? = some s → I[j]? = some x → x.length = s.n ∧ RowsAt clIt w2 s.p x ∧ ∀ b off, s.p = some ⟨b, off, none⟩ → w.heap.size ≤ b ∧ b < w2.heap.size ∧ og' b = .ldI := fun j s x hs hx => by
  obtain ⟨a, b, c⟩ := h.it j s x hs hx
  have hn : ¬ (Tag.ldI = .gm ∨ Tag.ldI = T) := fun e => by
    rcases e with e | e
    · simp at e
    · exact hT e.symm
  refine ⟨a, b.chg fr.size fun b off e => ?_, fun b off e => ?_⟩
  · obtain ⟨c1, c2, c3⟩ := c b off e
    exact fr.block b c2 (by rw [c3]; simp) (by rw [c3]; exact hn)
  · obtain ⟨c1, c2, c3⟩ := c b off e
    exact ⟨c1, Nat.lt_of_lt_of_le c2 fr.size, (sm b c2 (by rw [c3]; simp)).trans c3⟩
theorem LkD.appM (h : LkD w wr og vi vm va S M Q I) {w2 : World} (x : Int) (v' : Sl) (o1 : Own clInt w2 w.heap.size 3 v'.val (M ++ [x])) (g1 : wr.grownBy w2 vm.val.ownBlock) (t1 : v'.val.ownBlock = vm.val.ownBlock ∨ v'.val.ownBlock = some wr.heap.size) :
    LkD w (w2.setCell ⟨w.heap.size + 1, 1, none⟩ v'.val) (fun k => if v'.val.ownBlock = some k then .bT else og k) vi v' va S (M ++ [x]) Q I := by
  have fr := lk_fr (i := 1) (v' := v'.val) g1 h.tm h.gm
  have sm := lk_same (w1 := wr) t1 h.tm
  have l0 := lt_of_blk h.res
  have l1 := lt_of_blk h.blk
  refine ⟨lk_bel h.bel g1 (fun k hk => (h.om.lt k hk).1), lk_blk h.gm (by simp) h.tm h.blk g1, ?_, ?_, ?_, h.oi.fr fr h.ti (by simp) (by simp), h.ti.own sm h.oi (by simp), ?_, fun k hk => if_pos hk, h.oa.fr fr h.ta (by simp) (by simp), h.ta.own sm h.oa (by simp), h.ls, h.itFr fr sm (by simp)⟩
  · exact (sm _ l1 (by rw [h.gm]; simp)).trans h.gm
  · rw [fr.block _ l0 (by rw [h.gr]; simp) (by rw [h.gr]; simp)]; exact h.res
  · exact (sm _ l0 (by rw [h.gr]; simp)).trans h.gr
  · refine o1.chg fun k hk => heap_setCell_other _ _ _ _ (by
      show k ≠ w.heap.size + 1
      intro e
      rcases t1 with a | a
      · have := h.tm k (a ▸ hk); rw [e, h.gm] at this; simp at this
      · rw [a] at hk; have := Option.some.inj hk; omega)
theorem LkD.appA (h : LkD w wr og vi vm va S M Q I) {w2 : World} (x : An) (v' : Sl) (o1 : Own clAn w2 w.heap.size 61 v'.val (Q ++ [x])) (g1 : wr.grownBy w2 va.val.ownBlock) (t1 : v'.val.ownBlock = va.val.ownBlock ∨ v'.val.ownBlock = some wr.heap.size) :
    LkD w (w2.setCell ⟨w.heap.size + 1, 2, none⟩ v'.val) (fun k => if v'.val.ownBlock = some k then .bI else og k) vi vm v' S M (Q ++ [x]) I := by
  have fr := lk_fr (i := 2) (v' := v'.val) g1 h.ta h.gm
  have sm := lk_same (w1 := wr) t1 h.ta
  have l0 := lt_of_blk h.res
  have l1 := lt_of_blk h.blk
  refine ⟨lk_bel h.bel g1 (fun k hk => (h.oa.lt k hk).1), lk_blk h.gm (by simp) h.ta h.blk g1, ?_, ?_, ?_, h.oi.fr fr h.ti (by simp) (by simp), h.ti.own sm h.oi (by simp), h.om.fr fr h.tm (by simp) (by simp), h.tm.own sm h.om (by simp), ?_, fun k hk => if_pos hk, h.ls, h.itFr fr sm (by simp)⟩
  · exact (sm _ l1 (by rw [h.gm]; simp)).trans h.gm
  · rw [fr.block _ l0 (by rw [h.gr]; simp) (by rw [h.gr]; simp)]; exact h.res
  · exact (sm _ l0 (by rw [h.gr]; simp)).trans h.gr
  · refine o1.chg fun k hk => heap_setCell_other _ _ _ _ (by
      show k ≠ w.heap.size + 1
      intro e
      rcases t1 with a | a
      · have := h.ta k (a ▸ hk); rw [e, h.gm] at this; simp at this
      · rw [a] at hk; have := Option.some.inj hk; omega)
end
end Go.Proofs.Ytpglbakcjihohab
