/-
  Own texts, laid together: The program's Items, Watermark, Sync, Crash, Send, for every node. The program's Send, Ingest, Advance, for every node. The program's Advance, for every leaf. The document's Send, for every node and windows. The document's Deliver, for every node and packet. A game in memory: the program's store, the document's, the packets laid by, the book; what a step leaves of it.
-/
import Derived.Test.YtpglbakcjihohaaRows
import Derived.Test.YtpglbakcjihohaaPart3
set_option linter.unusedSimpArgs false
set_option linter.unusedVariables false
set_option linter.deprecated false
/-! The program's Items, Watermark, Sync, Crash, Send, for every node. -/
namespace Go.Proofs.Ytpglbakcjihohaa
open Go.RowKit
set_option maxRecDepth 100000

theorem info_lg : (Try.prog.info? 93).map (·.size) = some 2 := by kernel_rfl
theorem built_lg (p : Option Addr) (n c : Nat) (x : Int) : Try.prog.built 93 [(0, .slice p n c), (1, .int .i64 x)] = some #[.slice p n c, .int .i64 x] := by kernel_rfl
theorem results_lg {fn : Func} {p : Tmp} (h : fn.results = #[.cell p 93]) (tmps : Array Value) (w : World) (g : Nat) (u v : Value)
    (hp : tmps.getD p undef = .pointer (some ⟨g, 0, none⟩)) (hg : w.heap[g]? = some (.cells #[u, v] 93)) : (results fn tmps).run Try.prog w = .ok (.agg #[u, v]) w :=
  results_cell_row h tmps w g _ _ (0, 0) _ hp hg Try.underlying93 rfl info_lg
set_option maxHeartbeats 2000000 in
theorem lCopy_any (w : World) (bs o : Nat) (p : Option Addr) (m c : Nat) (mk : Int) (l : List It) (h : LgR w bs o p m c mk l) :
    Calls Try.prog 90 #[.pointer (some ⟨bs, o, none⟩)] w fun e w' => ∃ s : Sl, e = .returned (.agg #[.slice s.p s.n s.c, .int .i64 mk]) ∧ Own clIt w' w.heap.size 78 s.val (l.filter (inRg 0 19)) ∧ Below w.heap.size w w' := by
  have H : Hid (LgR w bs o p m c mk l) := h
  clear h
  go_enter Try.func90, Try.ntmps90
  go_upto_region 1 with fail
  obtain ⟨w1, hw1⟩ : ∃ w1, w1 = w.alloc (.cells #[.slice none 0 0, .int .i64 0] 93) := ⟨_, rfl⟩
  have G1 : Hid (w1.heap[w.heap.size]? = some (.cells #[.slice none 0 0, .int .i64 0] 93)) := by unfold Hid; rw [hw1]; exact heap_alloc_new _ _
  have HB1 : Hid (Below w.heap.size w w1) := by unfold Hid; rw [hw1]; exact below_alloc _ _
  have H1 : Hid (LgR w1 bs o p m c mk l) := H.out.below HB1.out
  have hs1 : w1.heap.size = w.heap.size + 1 := by rw [hw1]; simp
  rw [← hw1]
  clear hw1
  have hT0 : (fun w' : World => w'.cell? ⟨bs, o + 1, none⟩ = some (.int .i64 mk)) w1.drew := H1.out.c1
  refine wp_region_held (S := fun w' : World => w'.cell? ⟨bs, o + 1, none⟩ = some (.int .i64 mk)) mixed ?_
  refine wpAnyH_take (i := 0) (v := (.pointer (some ⟨bs, o, none⟩))) rfl (by kernel_rfl) (by kernel_rfl) (by kernel_rfl) (fun _ _ _ h => h) (Or.inl ⟨by rfl, fun wx hx => by go_simp⟩) hT0 ?_
  try dsimp only
  try simp only [Act.put, List.getElem_toArray, List.getElem_cons_succ, List.getElem_cons_zero, List.setIfInBounds_toArray, List.set_cons_zero, List.set_cons_succ]
  refine wpAnyH_take (i := 2) (v := (.pointer (some ⟨bs, o, none⟩))) rfl (by kernel_rfl) (by kernel_rfl) (by kernel_rfl) (fun _ _ _ h => h) (Or.inl ⟨by rfl, fun wx hx => by go_simp⟩) hT0 ?_
  try dsimp only
  try simp only [Act.put, List.getElem_toArray, List.getElem_cons_succ, List.getElem_cons_zero, List.setIfInBounds_toArray, List.set_cons_zero, List.set_cons_succ]
  refine wpAnyH_take (i := 3) (v := (.pointer (some ⟨bs, o, none⟩))) rfl (by kernel_rfl) (by kernel_rfl) (by kernel_rfl) (fun _ _ _ h => h) (Or.inl ⟨by rfl, fun wx hx => by go_simp⟩) hT0 ?_
  try dsimp only
  try simp only [Act.put, List.getElem_toArray, List.getElem_cons_succ, List.getElem_cons_zero, List.setIfInBounds_toArray, List.set_cons_zero, List.set_cons_succ]
  refine wpAnyH_take (i := 4) (v := (.pointer (some ⟨bs, o + 1, none⟩))) rfl (by kernel_rfl) (by kernel_rfl) (by kernel_rfl) (fun _ _ _ h => h) (Or.inl ⟨by rfl, fun wx hx => by go_simp⟩) hT0 ?_
  try dsimp only
  try simp only [Act.put, List.getElem_toArray, List.getElem_cons_succ, List.getElem_cons_zero, List.setIfInBounds_toArray, List.set_cons_zero, List.set_cons_succ]
  refine wpAnyH_take (i := 5) (v := (.int .i64 mk)) rfl (by kernel_rfl) (by kernel_rfl) (by kernel_rfl) (fun _ _ _ h => h) (Or.inl ⟨by rfl, fun wx hx => by have hx1 := hx; go_simp⟩) hT0 ?_
  try dsimp only
  try simp only [Act.put, List.getElem_toArray, List.getElem_cons_succ, List.getElem_cons_zero, List.setIfInBounds_toArray, List.set_cons_zero, List.set_cons_succ]
  refine wpAnyH_all (rs := [1]) (by kernel_rfl) (by simp) ?_
  intro jj hjj
  simp only [List.mem_cons, List.not_mem_nil, or_false] at hjj
  subst hjj
  refine wpOp_of_wp rfl rfl ?_
  go_simp
  refine (lItems_any w1.drew bs o p m c mk l ⟨H1.out.c0, H1.out.c1, H1.out.rows, H1.out.len, H1.out.small⟩ 0 19).mono ?_
  rintro e w5 ⟨v5, rfl, hown5, hb5⟩
  replace hb5 : Below w1.heap.size w1 w5 := below_drawn' hb5
  replace hown5 : Own clIt w5 w1.heap.size 78 v5 (l.filter (inRg 0 19)) := hown5
  obtain ⟨s5, rfl⟩ : ∃ s5 : Sl, v5 = .slice s5.p s5.n s5.c := by obtain ⟨p, c, e, _⟩ := hown5.form; exact ⟨⟨p, _, c⟩, e⟩
  have hT1 : (fun w' : World => w'.cell? ⟨bs, o + 1, none⟩ = some (.int .i64 mk)) w5 := cell_keep hb5 H1.out.c1
  refine ⟨hT1, ?_⟩
  try dsimp only
  try simp only [Act.put, List.getElem_toArray, List.getElem_cons_succ, List.getElem_cons_zero, List.setIfInBounds_toArray, List.set_cons_zero, List.set_cons_succ]
  refine wpAnyH_all (rs := [6]) (by kernel_rfl) (by simp) ?_
  intro jj hjj
  simp only [List.mem_cons, List.not_mem_nil, or_false] at hjj
  subst hjj
  refine wpOp_build_z rfl rfl _ _ rfl #[.slice s5.p s5.n s5.c, .int .i64 mk] (by refine Eq.trans ?_ (built_lg s5.p s5.n s5.c mk); kernel_rfl) ?_
  refine ⟨hT1, ?_⟩
  try dsimp only
  try simp only [Act.put, List.getElem_toArray, List.getElem_cons_succ, List.getElem_cons_zero, List.setIfInBounds_toArray, List.set_cons_zero, List.set_cons_succ]
  refine wpAnyH_all (rs := [7]) (by kernel_rfl) (by simp) ?_
  intro jj hjj
  simp only [List.mem_cons, List.not_mem_nil, or_false] at hjj
  subst hjj
  have G5 := keep hb5 G1.out
  refine wpOp_store_row rfl rfl _ _ _ rfl #[.slice s5.p s5.n s5.c, .int .i64 mk] rfl rfl G5 info_lg rfl (by simp [Value.oneCell']) ?_
  have hbx := block_lt_of_cell H.out.c1
  refine ⟨cell_setRow (by omega) hT1, ?_⟩
  try dsimp only
  try simp only [Act.put, List.getElem_toArray, List.getElem_cons_succ, List.getElem_cons_zero, List.setIfInBounds_toArray, List.set_cons_zero, List.set_cons_succ]
  refine wpAnyH_done (by kernel_rfl) ?_ _
  go_wp2
  refine bodyPost_ret (results_lg rfl _ _ _ _ _ rfl (setRow_blk G5)) rfl ⟨s5, rfl, ?_, below_setRow _ (bnext HB1.out hb5) (Nat.le_refl _)⟩
  exact (hown5.chg fun j hj => setRow_other _ _ _ _ (by have := (hown5.lt j hj).1; omega)).mono (by omega)
theorem IsSt.setBoth {A : Array Value} {t : List Int} {wid : Int} {V : Nat → Sl} {D D' : List Nd} (h : IsSt A t wid V D) (h8 : t.length ≤ 8) (q : Nat) (hq : q < 16) (s : Sl) (mk : Int) (hk : MQ D' q = mk) (hm : ∀ r, r < 16 → r ≠ q → MQ D' r = MQ D r) : IsSt (lay A (10 + q * 2) [.slice s.p s.n s.c, .int .i64 mk]) t wid (updV V q s) D' := by
  have hs := h.size
  have out : ∀ i, i < 10 + q * 2 ∨ 10 + q * 2 + 2 ≤ i → (lay A (10 + q * 2) [.slice s.p s.n s.c, .int .i64 mk])[i]? = A[i]? := fun i hi => lay_get_out (by simp; omega) (by simp; omega)
  have in0 : (lay A (10 + q * 2) [.slice s.p s.n s.c, .int .i64 mk])[10 + q * 2 + 0]? = some (.slice s.p s.n s.c) := lay_get_in (by simp; omega) (by simp)
  have in1 : (lay A (10 + q * 2) [.slice s.p s.n s.c, .int .i64 mk])[10 + q * 2 + 1]? = some (.int .i64 mk) := lay_get_in (by simp; omega) (by simp)
  refine ⟨?_, by rw [out _ (by omega)]; exact h.len, fun k hk => by rw [out _ (by omega)]; exact h.up k hk, by rw [out _ (by omega)]; exact h.wid, fun r hr => ?_, fun r hr => ?_⟩
  · have := congrArg List.length (show (lay A (10 + q * 2) [.slice s.p s.n s.c, .int .i64 mk]).toList = _ from rfl)
    simp [lay] at this ⊢; omega
  · by_cases e : r = q
    · subst e; simp only [updV, if_pos]; exact in0
    · rw [out _ (by omega)]; simp only [updV, if_neg e]; exact h.sl r hr
  · by_cases e : r = q
    · subst e; rw [hk]; exact in1
    · rw [out _ (by omega), hm r hr e]; exact h.mrk r hr
set_option maxHeartbeats 1000000 in
theorem sItems_any (w : World) (own : Ghost) (B0 bs : Nat) (t : List Int) (wid : Int) (D : List Nd) (h : SR w own B0 bs t wid D) (hd : DI D 100000000) (n : Int) :
    Calls Try.prog 51 #[.pointer (some ⟨bs, 0, none⟩), .int .i64 n] w fun e w' => ∃ v, e = .returned v ∧ Own clIt w' w.heap.size 78 v (lvAt t D n) ∧ Below w.heap.size w w' := by
  obtain ⟨V, A, h⟩ := h
  have HT : Hid (PTree w bs t) := h.tree
  by_cases h1 : isNd t n = true
  · obtain ⟨k, d, rfl, hk, hk8, hx⟩ := h.at n h1
    have HL : Hid (LgR w bs (10 + k * 2) (V k).p (V k).n (V k).c (MQ D k) (LQ t D k)) := h.lgr hd k (by omega)
    have HV : Hid (lvAt t D k = (LQ t D k).filter (inRg 0 19)) := by unfold Hid; rw [filt_all (h.good hd k).inb, LQ_live t D k d hk8 hx]; unfold lvAt; rw [if_pos h1]; simp [hx]
    clear h
    have k0 : (0 : Int) ≤ (k : Int) := by omega
    have k1 : (k : Int) < 8 := by omega
    go_enter Try.func51, Try.ntmps51
    go_wp2_with (first | (go_at_call 58; refine (has_any _ _ t HT.out _).mono ?_; rintro e w1 ⟨rfl, rfl⟩; rw [h1]) | (go_at_call 60; refine (lItems_any _ _ _ _ _ _ _ _ HL.out 0 19).mono ?_; rintro e w1 ⟨v1, rfl, ho1, hb1⟩))
    go_ret
    exact ⟨v1, rfl, by rw [HV.out]; exact ho1, hb1⟩
  · have h1' : isNd t n = false := by simpa using h1
    have HV : Hid (lvAt t D n = []) := by unfold Hid lvAt; rw [if_neg h1]
    clear h
    go_enter Try.func51, Try.ntmps51
    go_wp2_with (go_at_call 58; refine (has_any _ _ t HT.out _).mono ?_; rintro e w1 ⟨rfl, rfl⟩; rw [h1'])
    go_ret
    exact ⟨_, rfl, by rw [HV.out]; exact Own.nil _ _ _, Below.refl _ _⟩
set_option maxHeartbeats 1000000 in
theorem sMark_any (w : World) (own : Ghost) (B0 bs : Nat) (t : List Int) (wid : Int) (D : List Nd) (h : SR w own B0 bs t wid D) (n : Int) :
    Calls Try.prog 73 #[.pointer (some ⟨bs, 0, none⟩), .int .i64 n] w fun e w' => e = .returned (.int .i64 (wmAt t D n)) ∧ Below w.heap.size w w' := by
  obtain ⟨V, A, h⟩ := h
  have HT : Hid (PTree w bs t) := h.tree
  have h8 := h.T.le
  by_cases h1 : wrg t n = 0
  · have h2 : isNd t n = true := by
      unfold wrg at h1
      split at h1
      · assumption
      · omega
    obtain ⟨k, d, rfl, hk, hk8, hx⟩ := h.at n h2
    have HC : Hid (w.cell? ⟨bs, 10 + k * 2 + 1, none⟩ = some (.int .i64 (MQ D k))) := by unfold Hid; rw [cell_of_row _ _ _ _ _ _ h.main]; exact h.is.mrk k (by omega)
    have HV : Hid (wmAt t D k = MQ D k) := by unfold Hid wmAt; rw [if_pos h1, MQ_live D k d hk8 hx]; simp [hx]
    clear h
    have k0 : (0 : Int) ≤ (k : Int) := by omega
    have k1 : (k : Int) < 8 := by omega
    go_enter Try.func73, Try.ntmps73
    go_wp2_with (first | (go_at_call 74; refine (leafError_any _ _ t HT.out _ h8).mono ?_; rintro e w1 ⟨rfl, rfl⟩; rw [h1]) | (go_at_call 76; refine (lWatermark_any _ _ _ _ HC.out).mono ?_; rintro e w1 ⟨rfl, rfl⟩))
    go_ret
    exact ⟨by rw [HV.out]; rfl, Below.refl _ _⟩
  · have HV : Hid (wmAt t D n = -1) := by unfold Hid wmAt; rw [if_neg h1]
    clear h
    have hb : (wrg t n == 0) = false := by simpa using h1
    have hb2 : (wrg t n != 0) = true := by simpa using h1
    go_enter Try.func73, Try.ntmps73
    go_wp2_with (go_at_call 74; refine (leafError_any _ _ t HT.out _ h8).mono ?_; rintro e w1 ⟨rfl, rfl⟩)
    go_ret
    exact ⟨by rw [HV.out]; rfl, Below.refl _ _⟩
/-- A ledger stored over another one. -/
theorem SRep.copied {w w5 : World} {own : Ghost} {B0 bs : Nat} {t : List Int} {wid : Int} {D D' : List Nd} {V : Nat → Sl} {A : Array Value} (h : SRep w own B0 bs t wid D V A) (hB0 : B0 ≤ w.heap.size) (q : Nat) (hq : q < 16) (s : Sl) (mk : Int) (hb : Below w.heap.size w w5) (hown : Own clIt w5 w.heap.size 78 s.val (LQ t D' q))
    (hk : MQ D' q = mk) (hm : ∀ r, r < 16 → r ≠ q → MQ D' r = MQ D r) (hL : ∀ r, r < 16 → r ≠ q → LQ t D' r = LQ t D r) (hld : D'.length = t.length) (hev : ∀ (k : Nat) (d : Nd), D'[k]? = some d → EvOk d.lev ∧ EvOk d.kev ∧ Good d.items ∧ Good d.saved ∧ 0 ≤ d.lmk ∧ d.lmk ≤ 20000 ∧ 0 ≤ d.kmk ∧ d.kmk ≤ 20000) :
    Chg SR w own B0 bs t wid D' (w5.setRow bs (lay A (10 + q * 2) [.slice s.p s.n s.c, .int .i64 mk])) := by
  have hbs := lt_of_blk h.main
  have g5 := keep hb h.main
  refine h.gen q hq s hb.os hb.tape hb.output (by simpa using hb.size) (fun k hk h1 _ => ?_) (setRow_blk g5) (h.is.setBoth h.T.le q hq s mk hk hm) ?_ ?_ hL hld hev
  · rw [setRow_other _ _ _ _ h1]; exact hb.block k hk
  · exact (hown.chg fun j hj => setRow_other _ _ _ _ (by have := (hown.lt j hj).1; omega)).mono hB0
  · exact fun g e => .inr (hown.lt g e).1
set_option maxHeartbeats 4000000 in
theorem sSync_any (w : World) (own : Ghost) (B0 bs : Nat) (t : List Int) (wid : Int) (D : List Nd) (h : SR w own B0 bs t wid D) (hd : DI D 100000000) (hB0 : B0 ≤ w.heap.size) (n : Int) :
    Calls Try.prog 71 #[.pointer (some ⟨bs, 0, none⟩), .int .i64 n] w fun e w' => e = .returned (.int .i64 (ndE t n)) ∧ Chg SR w own B0 bs t wid (synD t D n) w' := by
  obtain ⟨V, A, h⟩ := h
  have HT : Hid (PTree w bs t) := h.tree
  have HS : Hid (SRep w own B0 bs t wid D V A) := h
  by_cases h1 : isNd t n = true
  · obtain ⟨k, d, rfl, hk, hk8, hx⟩ := h.at n h1
    have HE : Hid (ndE t k = 0) := by unfold Hid ndE; rw [if_pos h1]
    have HD : Hid (synD t D k = D.set k { d with kev := d.lev, kcl := d.lcl, kmk := d.lmk, saved := d.items }) := by unfold Hid synD; rw [if_pos h1]; simp [hx]
    have HL : Hid (LgR w bs (10 + k * 2) (V k).p (V k).n (V k).c (MQ D k) (LQ t D k)) := h.lgr hd k (by omega)
    have HG : Hid (Good (LQ t D k)) := h.good hd k
    have HX : Hid (D[k]? = some d) := hx
    clear h hx
    have k0 : (0 : Int) ≤ (k : Int) := by omega
    have k1 : (k : Int) < 8 := by omega
    go_enter Try.func71, Try.ntmps71
    go_upto_region 3 with (go_at_call 58; refine (has_any _ _ t HT.out _).mono ?_; rintro e w1 ⟨rfl, rfl⟩; rw [h1])
    rename World => w
    have hT0 : (fun w' : World => w.heap.size ≤ w'.heap.size) w.drew := Nat.le_refl _
    refine wp_region_held (S := fun w' : World => w.heap.size ≤ w'.heap.size) mixed ?_
    refine wpAnyH_take (i := 0) (v := (.pointer (some ⟨bs, 0, none⟩))) rfl (by kernel_rfl) (by kernel_rfl) (by kernel_rfl) (fun _ _ _ h => h) (Or.inl ⟨by rfl, fun wx hx => by go_simp⟩) hT0 ?_
    try dsimp only
    try simp only [Act.put, List.getElem_toArray, List.getElem_cons_succ, List.getElem_cons_zero, List.setIfInBounds_toArray, List.set_cons_zero, List.set_cons_succ]
    refine wpAnyH_take (i := 1) (v := (.int .i64 k)) rfl (by kernel_rfl) (by kernel_rfl) (by kernel_rfl) (fun _ _ _ h => h) (Or.inl ⟨by rfl, fun wx hx => by go_simp⟩) hT0 ?_
    try dsimp only
    try simp only [Act.put, List.getElem_toArray, List.getElem_cons_succ, List.getElem_cons_zero, List.setIfInBounds_toArray, List.set_cons_zero, List.set_cons_succ]
    refine wpAnyH_take (i := 2) (v := (.pointer (some ⟨bs, 0, none⟩))) rfl (by kernel_rfl) (by kernel_rfl) (by kernel_rfl) (fun _ _ _ h => h) (Or.inl ⟨by rfl, fun wx hx => by go_simp⟩) hT0 ?_
    try dsimp only
    try simp only [Act.put, List.getElem_toArray, List.getElem_cons_succ, List.getElem_cons_zero, List.setIfInBounds_toArray, List.set_cons_zero, List.set_cons_succ]
    refine wpAnyH_take (i := 3) (v := (.int .i64 k)) rfl (by kernel_rfl) (by kernel_rfl) (by kernel_rfl) (fun _ _ _ h => h) (Or.inl ⟨by rfl, fun wx hx => by go_simp⟩) hT0 ?_
    try dsimp only
    try simp only [Act.put, List.getElem_toArray, List.getElem_cons_succ, List.getElem_cons_zero, List.setIfInBounds_toArray, List.set_cons_zero, List.set_cons_succ]
    refine wpAnyH_take (i := 4) (v := (.pointer (some ⟨bs, 0, none⟩))) rfl (by kernel_rfl) (by kernel_rfl) (by kernel_rfl) (fun _ _ _ h => h) (Or.inl ⟨by rfl, fun wx hx => by go_simp⟩) hT0 ?_
    try dsimp only
    try simp only [Act.put, List.getElem_toArray, List.getElem_cons_succ, List.getElem_cons_zero, List.setIfInBounds_toArray, List.set_cons_zero, List.set_cons_succ]
    refine wpAnyH_take (i := 5) (v := (.pointer (some ⟨bs, 10, none⟩))) rfl (by kernel_rfl) (by kernel_rfl) (by kernel_rfl) (fun _ _ _ h => h) (Or.inl ⟨by rfl, fun wx hx => by go_simp⟩) hT0 ?_
    try dsimp only
    try simp only [Act.put, List.getElem_toArray, List.getElem_cons_succ, List.getElem_cons_zero, List.setIfInBounds_toArray, List.set_cons_zero, List.set_cons_succ]
    refine wpAnyH_take (i := 6) (v := (.pointer (some ⟨bs, 10 + k * 2, none⟩))) rfl (by kernel_rfl) (by kernel_rfl) (by kernel_rfl) (fun _ _ _ h => h) (Or.inl ⟨by rfl, fun wx hx => by go_simp⟩) hT0 ?_
    try dsimp only
    try simp only [Act.put, List.getElem_toArray, List.getElem_cons_succ, List.getElem_cons_zero, List.setIfInBounds_toArray, List.set_cons_zero, List.set_cons_succ]
    refine wpAnyH_take (i := 8) (v := (.pointer (some ⟨bs, 0, none⟩))) rfl (by kernel_rfl) (by kernel_rfl) (by kernel_rfl) (fun _ _ _ h => h) (Or.inl ⟨by rfl, fun wx hx => by go_simp⟩) hT0 ?_
    try dsimp only
    try simp only [Act.put, List.getElem_toArray, List.getElem_cons_succ, List.getElem_cons_zero, List.setIfInBounds_toArray, List.set_cons_zero, List.set_cons_succ]
    refine wpAnyH_take (i := 9) (v := (.pointer (some ⟨bs, 26, none⟩))) rfl (by kernel_rfl) (by kernel_rfl) (by kernel_rfl) (fun _ _ _ h => h) (Or.inl ⟨by rfl, fun wx hx => by go_simp⟩) hT0 ?_
    try dsimp only
    try simp only [Act.put, List.getElem_toArray, List.getElem_cons_succ, List.getElem_cons_zero, List.setIfInBounds_toArray, List.set_cons_zero, List.set_cons_succ]
    refine wpAnyH_all (rs := [7]) (by kernel_rfl) (by simp) ?_
    intro jj hjj
    simp only [List.mem_cons, List.not_mem_nil, or_false] at hjj
    subst hjj
    refine wpOp_of_wp rfl rfl ?_
    go_simp
    refine (lCopy_any w.drew bs (10 + k * 2) _ _ _ _ _ ⟨HL.out.c0, HL.out.c1, HL.out.rows, HL.out.len, HL.out.small⟩).mono ?_
    rintro e w5 ⟨s5, rfl, hown5, hb5⟩
    replace hb5 : Below w.heap.size w w5 := below_drawn' hb5
    replace hown5 : Own clIt w5 w.heap.size 78 s5.val ((LQ t D k).filter (inRg 0 19)) := hown5
    have hT1 : (fun w' : World => w.heap.size ≤ w'.heap.size) w5 := hb5.size
    refine ⟨hT1, ?_⟩
    try dsimp only
    try simp only [Act.put, List.getElem_toArray, List.getElem_cons_succ, List.getElem_cons_zero, List.setIfInBounds_toArray, List.set_cons_zero, List.set_cons_succ]
    refine wpAnyH_take (i := 10) (v := (.pointer (some ⟨bs, 26 + k * 2, none⟩))) rfl (by kernel_rfl) (by kernel_rfl) (by kernel_rfl) (fun _ _ _ h => h) (Or.inl ⟨by rfl, fun wx hx => by go_simp⟩) hT1 ?_
    try dsimp only
    try simp only [Act.put, List.getElem_toArray, List.getElem_cons_succ, List.getElem_cons_zero, List.setIfInBounds_toArray, List.set_cons_zero, List.set_cons_succ]
    refine wpAnyH_all (rs := [11]) (by kernel_rfl) (by simp) ?_
    intro jj hjj
    simp only [List.mem_cons, List.not_mem_nil, or_false] at hjj
    subst hjj
    have g5 := keep hb5 HS.out.main
    refine wpOp_of_wp rfl rfl (wp_store_lay 93 _ _ rfl bs _ #[.slice s5.p s5.n s5.c, .int .i64 (MQ D k)] rfl rfl _ A g5 info_lg (by have := HS.out.is.size; simp; omega) (by simp [Value.oneCell']) ?_)
    refine ⟨(by simpa using hT1), ?_⟩
    try dsimp only
    try simp only [Act.put, List.getElem_toArray, List.getElem_cons_succ, List.getElem_cons_zero, List.setIfInBounds_toArray, List.set_cons_zero, List.set_cons_succ]
    refine wpAnyH_done (by kernel_rfl) ?_ _
    have Z : Hid (Chg SR w own B0 bs t wid (synD t D k) (w5.setRow bs (lay A (26 + k * 2) [.slice s5.p s5.n s5.c, .int .i64 (MQ D k)]))) := by
      unfold Hid
      have hkD : k < D.length := (List.getElem?_eq_some_iff.1 HX.out).1
      have hset : (D.set k { d with kev := d.lev, kcl := d.lcl, kmk := d.lmk, saved := d.items })[k]? = some { d with kev := d.lev, kcl := d.lcl, kmk := d.lmk, saved := d.items } := List.getElem?_set_self hkD
      have he := HS.out.ev k d HX.out
      rw [HD.out, show 26 + k * 2 = 10 + (8 + k) * 2 by omega]
      refine HS.out.copied hB0 (8 + k) (by omega) s5 (MQ D k) hb5 ?_ ?_ (fun r hr hne => ?_) (fun r hr hne => ?_) (by simpa using HS.out.ld) (fun j d' hj => ?_)
      · rw [filt_all HG.out.inb, LQ_live t D k d hk8 HX.out] at hown5
        rw [LQ_kept t _ k _ hset]; exact hown5
      · rw [MQ_kept _ k _ hset, MQ_live D k d hk8 HX.out]
      · by_cases e : r = k
        · subst e; rw [MQ_live _ r _ hk8 hset, MQ_live D r d hk8 HX.out]
        · exact MQ_set D k _ r e hne
      · by_cases e : r = k
        · subst e; rw [LQ_live t _ r _ hk8 hset, LQ_live t D r d hk8 HX.out]; rfl
        · exact LQ_set t D k _ r e hne
      · by_cases e : k = j
        · subst e
          rw [hset] at hj; cases hj
          exact ⟨he.1, he.1, he.2.2.1, he.2.2.1, he.2.2.2.2.1, he.2.2.2.2.2.1, he.2.2.2.2.1, he.2.2.2.2.2.1⟩
        · rw [List.getElem?_set_ne e] at hj; exact HS.out.ev j d' hj
    clear hT0 hT1 hown5 hb5 g5
    go_wp2
    go_ret
    exact ⟨by rw [HE.out]; rfl, Z.out⟩
  · have h1' : isNd t n = false := by simpa using h1
    have HE : Hid (ndE t n = 2) := by unfold Hid ndE; rw [if_neg h1]
    have HD : Hid (synD t D n = D) := by unfold Hid synD; rw [if_neg h1]
    clear h
    go_enter Try.func71, Try.ntmps71
    go_wp2_with (go_at_call 58; refine (has_any _ _ t HT.out _).mono ?_; rintro e w1 ⟨rfl, rfl⟩; rw [h1'])
    go_ret
    exact ⟨by rw [HE.out]; rfl, own, by rw [HD.out]; exact ⟨V, A, HS.out⟩, Same.refl _ _, Fr.refl _ _ _⟩
set_option maxHeartbeats 4000000 in
theorem sCrash_any (w : World) (own : Ghost) (B0 bs : Nat) (t : List Int) (wid : Int) (D : List Nd) (h : SR w own B0 bs t wid D) (hd : DI D 100000000) (hB0 : B0 ≤ w.heap.size) (n : Int) :
    Calls Try.prog 72 #[.pointer (some ⟨bs, 0, none⟩), .int .i64 n] w fun e w' => e = .returned (.int .i64 (ndE t n)) ∧ Chg SR w own B0 bs t wid (craD t D n) w' := by
  obtain ⟨V, A, h⟩ := h
  have HT : Hid (PTree w bs t) := h.tree
  have HS : Hid (SRep w own B0 bs t wid D V A) := h
  by_cases h1 : isNd t n = true
  · obtain ⟨k, d, rfl, hk, hk8, hx⟩ := h.at n h1
    have HE : Hid (ndE t k = 0) := by unfold Hid ndE; rw [if_pos h1]
    have HD : Hid (craD t D k = D.set k { d with lev := d.kev, lcl := d.kcl, lmk := d.kmk, items := d.saved }) := by unfold Hid craD; rw [if_pos h1]; simp [hx]
    have HL : Hid (LgR w bs (26 + k * 2) (V (8 + k)).p (V (8 + k)).n (V (8 + k)).c (MQ D (8 + k)) (LQ t D (8 + k))) := by unfold Hid; rw [show 26 + k * 2 = 10 + (8 + k) * 2 by omega]; exact h.lgr hd (8 + k) (by omega)
    have HG : Hid (Good (LQ t D (8 + k))) := h.good hd (8 + k)
    have HX : Hid (D[k]? = some d) := hx
    clear h hx
    have k0 : (0 : Int) ≤ (k : Int) := by omega
    have k1 : (k : Int) < 8 := by omega
    go_enter Try.func72, Try.ntmps72
    go_upto_region 3 with (go_at_call 58; refine (has_any _ _ t HT.out _).mono ?_; rintro e w1 ⟨rfl, rfl⟩; rw [h1])
    rename World => w
    have hT0 : (fun w' : World => w.heap.size ≤ w'.heap.size) w.drew := Nat.le_refl _
    refine wp_region_held (S := fun w' : World => w.heap.size ≤ w'.heap.size) mixed ?_
    refine wpAnyH_take (i := 0) (v := (.pointer (some ⟨bs, 0, none⟩))) rfl (by kernel_rfl) (by kernel_rfl) (by kernel_rfl) (fun _ _ _ h => h) (Or.inl ⟨by rfl, fun wx hx => by go_simp⟩) hT0 ?_
    try dsimp only
    try simp only [Act.put, List.getElem_toArray, List.getElem_cons_succ, List.getElem_cons_zero, List.setIfInBounds_toArray, List.set_cons_zero, List.set_cons_succ]
    refine wpAnyH_take (i := 1) (v := (.int .i64 k)) rfl (by kernel_rfl) (by kernel_rfl) (by kernel_rfl) (fun _ _ _ h => h) (Or.inl ⟨by rfl, fun wx hx => by go_simp⟩) hT0 ?_
    try dsimp only
    try simp only [Act.put, List.getElem_toArray, List.getElem_cons_succ, List.getElem_cons_zero, List.setIfInBounds_toArray, List.set_cons_zero, List.set_cons_succ]
    refine wpAnyH_take (i := 2) (v := (.pointer (some ⟨bs, 0, none⟩))) rfl (by kernel_rfl) (by kernel_rfl) (by kernel_rfl) (fun _ _ _ h => h) (Or.inl ⟨by rfl, fun wx hx => by go_simp⟩) hT0 ?_
    try dsimp only
    try simp only [Act.put, List.getElem_toArray, List.getElem_cons_succ, List.getElem_cons_zero, List.setIfInBounds_toArray, List.set_cons_zero, List.set_cons_succ]
    refine wpAnyH_take (i := 3) (v := (.int .i64 k)) rfl (by kernel_rfl) (by kernel_rfl) (by kernel_rfl) (fun _ _ _ h => h) (Or.inl ⟨by rfl, fun wx hx => by go_simp⟩) hT0 ?_
    try dsimp only
    try simp only [Act.put, List.getElem_toArray, List.getElem_cons_succ, List.getElem_cons_zero, List.setIfInBounds_toArray, List.set_cons_zero, List.set_cons_succ]
    refine wpAnyH_take (i := 4) (v := (.pointer (some ⟨bs, 0, none⟩))) rfl (by kernel_rfl) (by kernel_rfl) (by kernel_rfl) (fun _ _ _ h => h) (Or.inl ⟨by rfl, fun wx hx => by go_simp⟩) hT0 ?_
    try dsimp only
    try simp only [Act.put, List.getElem_toArray, List.getElem_cons_succ, List.getElem_cons_zero, List.setIfInBounds_toArray, List.set_cons_zero, List.set_cons_succ]
    refine wpAnyH_take (i := 5) (v := (.pointer (some ⟨bs, 26, none⟩))) rfl (by kernel_rfl) (by kernel_rfl) (by kernel_rfl) (fun _ _ _ h => h) (Or.inl ⟨by rfl, fun wx hx => by go_simp⟩) hT0 ?_
    try dsimp only
    try simp only [Act.put, List.getElem_toArray, List.getElem_cons_succ, List.getElem_cons_zero, List.setIfInBounds_toArray, List.set_cons_zero, List.set_cons_succ]
    refine wpAnyH_take (i := 6) (v := (.pointer (some ⟨bs, 26 + k * 2, none⟩))) rfl (by kernel_rfl) (by kernel_rfl) (by kernel_rfl) (fun _ _ _ h => h) (Or.inl ⟨by rfl, fun wx hx => by go_simp⟩) hT0 ?_
    try dsimp only
    try simp only [Act.put, List.getElem_toArray, List.getElem_cons_succ, List.getElem_cons_zero, List.setIfInBounds_toArray, List.set_cons_zero, List.set_cons_succ]
    refine wpAnyH_take (i := 8) (v := (.pointer (some ⟨bs, 0, none⟩))) rfl (by kernel_rfl) (by kernel_rfl) (by kernel_rfl) (fun _ _ _ h => h) (Or.inl ⟨by rfl, fun wx hx => by go_simp⟩) hT0 ?_
    try dsimp only
    try simp only [Act.put, List.getElem_toArray, List.getElem_cons_succ, List.getElem_cons_zero, List.setIfInBounds_toArray, List.set_cons_zero, List.set_cons_succ]
    refine wpAnyH_take (i := 9) (v := (.pointer (some ⟨bs, 10, none⟩))) rfl (by kernel_rfl) (by kernel_rfl) (by kernel_rfl) (fun _ _ _ h => h) (Or.inl ⟨by rfl, fun wx hx => by go_simp⟩) hT0 ?_
    try dsimp only
    try simp only [Act.put, List.getElem_toArray, List.getElem_cons_succ, List.getElem_cons_zero, List.setIfInBounds_toArray, List.set_cons_zero, List.set_cons_succ]
    refine wpAnyH_all (rs := [7]) (by kernel_rfl) (by simp) ?_
    intro jj hjj
    simp only [List.mem_cons, List.not_mem_nil, or_false] at hjj
    subst hjj
    refine wpOp_of_wp rfl rfl ?_
    go_simp
    refine (lCopy_any w.drew bs (26 + k * 2) _ _ _ _ _ ⟨HL.out.c0, HL.out.c1, HL.out.rows, HL.out.len, HL.out.small⟩).mono ?_
    rintro e w5 ⟨s5, rfl, hown5, hb5⟩
    replace hb5 : Below w.heap.size w w5 := below_drawn' hb5
    replace hown5 : Own clIt w5 w.heap.size 78 s5.val ((LQ t D (8 + k)).filter (inRg 0 19)) := hown5
    have hT1 : (fun w' : World => w.heap.size ≤ w'.heap.size) w5 := hb5.size
    refine ⟨hT1, ?_⟩
    try dsimp only
    try simp only [Act.put, List.getElem_toArray, List.getElem_cons_succ, List.getElem_cons_zero, List.setIfInBounds_toArray, List.set_cons_zero, List.set_cons_succ]
    refine wpAnyH_take (i := 10) (v := (.pointer (some ⟨bs, 10 + k * 2, none⟩))) rfl (by kernel_rfl) (by kernel_rfl) (by kernel_rfl) (fun _ _ _ h => h) (Or.inl ⟨by rfl, fun wx hx => by go_simp⟩) hT1 ?_
    try dsimp only
    try simp only [Act.put, List.getElem_toArray, List.getElem_cons_succ, List.getElem_cons_zero, List.setIfInBounds_toArray, List.set_cons_zero, List.set_cons_succ]
    refine wpAnyH_all (rs := [11]) (by kernel_rfl) (by simp) ?_
    intro jj hjj
    simp only [List.mem_cons, List.not_mem_nil, or_false] at hjj
    subst hjj
    have g5 := keep hb5 HS.out.main
    refine wpOp_of_wp rfl rfl (wp_store_lay 93 _ _ rfl bs _ #[.slice s5.p s5.n s5.c, .int .i64 (MQ D (8 + k))] rfl rfl _ A g5 info_lg (by have := HS.out.is.size; simp; omega) (by simp [Value.oneCell']) ?_)
    refine ⟨(by simpa using hT1), ?_⟩
    try dsimp only
    try simp only [Act.put, List.getElem_toArray, List.getElem_cons_succ, List.getElem_cons_zero, List.setIfInBounds_toArray, List.set_cons_zero, List.set_cons_succ]
    refine wpAnyH_done (by kernel_rfl) ?_ _
    have Z : Hid (Chg SR w own B0 bs t wid (craD t D k) (w5.setRow bs (lay A (10 + k * 2) [.slice s5.p s5.n s5.c, .int .i64 (MQ D (8 + k))]))) := by
      unfold Hid
      have hkD : k < D.length := (List.getElem?_eq_some_iff.1 HX.out).1
      have hset : (D.set k { d with lev := d.kev, lcl := d.kcl, lmk := d.kmk, items := d.saved })[k]? = some { d with lev := d.kev, lcl := d.kcl, lmk := d.kmk, items := d.saved } := List.getElem?_set_self hkD
      have he := HS.out.ev k d HX.out
      rw [HD.out]
      refine HS.out.copied hB0 k (by omega) s5 (MQ D (8 + k)) hb5 ?_ ?_ (fun r hr hne => ?_) (fun r hr hne => ?_) (by simpa using HS.out.ld) (fun j d' hj => ?_)
      · rw [filt_all HG.out.inb, LQ_kept t D k d HX.out] at hown5
        rw [LQ_live t _ k _ hk8 hset]; exact hown5
      · rw [MQ_live _ k _ hk8 hset, MQ_kept D k d HX.out]
      · by_cases e : r = 8 + k
        · subst e; rw [MQ_kept _ k _ hset, MQ_kept D k d HX.out]
        · exact MQ_set D k _ r hne e
      · by_cases e : r = 8 + k
        · subst e; rw [LQ_kept t _ k _ hset, LQ_kept t D k d HX.out]; rfl
        · exact LQ_set t D k _ r hne e
      · by_cases e : k = j
        · subst e
          rw [hset] at hj; cases hj
          exact ⟨he.2.1, he.2.1, he.2.2.2.1, he.2.2.2.1, he.2.2.2.2.2.2.1, he.2.2.2.2.2.2.2, he.2.2.2.2.2.2.1, he.2.2.2.2.2.2.2⟩
        · rw [List.getElem?_set_ne e] at hj; exact HS.out.ev j d' hj
    clear hT0 hT1 hown5 hb5 g5
    go_wp2
    go_ret
    exact ⟨by rw [HE.out]; rfl, Z.out⟩
  · have h1' : isNd t n = false := by simpa using h1
    have HE : Hid (ndE t n = 2) := by unfold Hid ndE; rw [if_neg h1]
    have HD : Hid (craD t D n = D) := by unfold Hid craD; rw [if_neg h1]
    clear h
    go_enter Try.func72, Try.ntmps72
    go_wp2_with (go_at_call 58; refine (has_any _ _ t HT.out _).mono ?_; rintro e w1 ⟨rfl, rfl⟩; rw [h1'])
    go_ret
    exact ⟨by rw [HE.out]; rfl, own, by rw [HD.out]; exact ⟨V, A, HS.out⟩, Same.refl _ _, Fr.refl _ _ _⟩
end Go.Proofs.Ytpglbakcjihohaa

/-! The program's Send, Ingest, Advance, for every node. -/
namespace Go.Proofs.Ytpglbakcjihohaa
open Go.RowKit
set_option maxRecDepth 100000

set_option maxHeartbeats 2000000 in
theorem sSend_any (w : World) (own : Ghost) (B0 bs : Nat) (t : List Int) (wid : Int) (D : List Nd) (h : SR w own B0 bs t wid D) (hd : DI D 100000000) (n low high : Int) :
    Calls Try.prog 56 #[.pointer (some ⟨bs, 0, none⟩), .int .i64 n, .int .i64 low, .int .i64 high] w fun e w' => ∃ v, e = .returned (.tuple #[.agg #[.int .i64 (sndF t n low high), v], .int .i64 (sndE t n low high)]) ∧ Own clIt w' w.heap.size 78 v (sndL t D n low high) ∧ Below w.heap.size w w' := by
  obtain ⟨V, A, h⟩ := h
  have HT : Hid (PTree (w.alloc (.cells #[.int .i64 0, .slice none 0 0] 88)) bs t) := (h.below (below_alloc _ _)).tree
  by_cases h1 : isNd t n = true
  · by_cases h0 : n = 0
    · subst h0
      have HE : Hid (sndE t 0 low high = 4) := by unfold Hid sndE; rw [if_pos h1, if_pos rfl]
      have HL : Hid (sndL t D 0 low high = []) := by unfold Hid sndL; rw [if_neg (by rw [HE.out]; decide)]
      have HF : Hid (sndF t 0 low high = 0) := by unfold Hid sndF; rw [if_neg (by rw [HE.out]; decide)]
      clear h
      go_enter Try.func56, Try.ntmps56
      go_wp2_with (go_at_call 58; refine (has_any _ _ t HT.out _).mono ?_; rintro e w1 ⟨rfl, rfl⟩; rw [h1])
      exact bodyPost_ret (results_pk rfl _ _ _ _ _ rfl (by exact heap_alloc_new _ _)) rfl ⟨_, by rw [HE.out, HF.out]; rfl, by rw [HL.out]; exact Own.nil _ _ _, below_alloc _ _⟩
    · by_cases h2 : isRg low high = true
      · obtain ⟨k, d, rfl, hk, hk8, hx⟩ := h.at n h1
        have HE : Hid (sndE t k low high = 0) := by unfold Hid sndE; rw [if_pos h1, if_neg h0, if_pos h2]
        have HL : Hid (sndL t D k low high = (LQ t D (8 + k)).filter (inRg low high)) := by unfold Hid sndL; rw [if_pos HE.out, LQ_kept t D k d hx]; simp [hx]
        have HF : Hid (sndF t k low high = k) := by unfold Hid sndF; rw [if_pos HE.out]
        have k0' : ((k : Int) == 0) = false := by simpa using h0
        have HG : Hid (LgR w bs (26 + k * 2) (V (8 + k)).p (V (8 + k)).n (V (8 + k)).c (MQ D (8 + k)) (LQ t D (8 + k))) := by unfold Hid; rw [show 26 + k * 2 = 10 + (8 + k) * 2 by omega]; exact h.lgr hd (8 + k) (by omega)
        clear h
        have k0 : (0 : Int) ≤ (k : Int) := by omega
        have k1 : (k : Int) < 8 := by omega
        go_enter Try.func56, Try.ntmps56
        go_wp2_with (first | (go_at_call 58; refine (has_any _ _ t HT.out _).mono ?_; rintro e w1 ⟨rfl, rfl⟩; rw [h1]) | (go_at_call 59; refine (areWindows_any _ _ _).mono ?_; rintro e w1 ⟨rfl, rfl⟩; rw [h2]) | (go_at_call 60; refine (lItems_any _ _ _ _ _ _ _ _ (HG.out.below (below_alloc _ _)) _ _).mono ?_; rintro e w1 ⟨v1, rfl, ho1, hb1⟩; obtain ⟨s1, rfl⟩ : (∃ s1 : Sl, v1 = .slice s1.p s1.n s1.c) := (by obtain ⟨p, c, e, _⟩ := ho1.form; exact ⟨⟨p, _, c⟩, e⟩); have G1 := keep hb1 (heap_alloc_new w (.cells #[.int .i64 0, .slice none 0 0] 88)); have HB1 := bnext (below_alloc _ _) hb1) | (refine store_pk rfl _ _ rfl k s1 rfl rfl (by exact G1) rfl ?_))
        refine bodyPost_ret (results_pk rfl _ _ _ _ _ rfl (by exact setRow_blk G1)) rfl ⟨_, by rw [HE.out, HF.out]; rfl, ?_, below_setRow _ HB1 (Nat.le_refl _)⟩
        rw [HL.out]
        exact (ho1.chg fun j hj => setRow_other _ _ _ _ (by have := (ho1.lt j hj).1; simp at this; omega)).mono (by simp)
      · have h2' : isRg low high = false := by simpa using h2
        have HE : Hid (sndE t n low high = 8) := by unfold Hid sndE; rw [if_pos h1, if_neg h0, if_neg h2]
        have HL : Hid (sndL t D n low high = []) := by unfold Hid sndL; rw [if_neg (by rw [HE.out]; decide)]
        have HF : Hid (sndF t n low high = 0) := by unfold Hid sndF; rw [if_neg (by rw [HE.out]; decide)]
        clear h
        go_enter Try.func56, Try.ntmps56
        go_wp2_with (first | (go_at_call 58; refine (has_any _ _ t HT.out _).mono ?_; rintro e w1 ⟨rfl, rfl⟩; rw [h1]) | (go_at_call 59; refine (areWindows_any _ _ _).mono ?_; rintro e w1 ⟨rfl, rfl⟩; rw [h2']))
        exact bodyPost_ret (results_pk rfl _ _ _ _ _ rfl (by exact heap_alloc_new _ _)) rfl ⟨_, by rw [HE.out, HF.out]; rfl, by rw [HL.out]; exact Own.nil _ _ _, below_alloc _ _⟩
  · have h1' : isNd t n = false := by simpa using h1
    have HE : Hid (sndE t n low high = 2) := by unfold Hid sndE; rw [if_neg h1]
    have HL : Hid (sndL t D n low high = []) := by unfold Hid sndL; rw [if_neg (by rw [HE.out]; decide)]
    have HF : Hid (sndF t n low high = 0) := by unfold Hid sndF; rw [if_neg (by rw [HE.out]; decide)]
    clear h
    go_enter Try.func56, Try.ntmps56
    go_wp2_with (go_at_call 58; refine (has_any _ _ t HT.out _).mono ?_; rintro e w1 ⟨rfl, rfl⟩; rw [h1'])
    exact bodyPost_ret (results_pk rfl _ _ _ _ _ rfl (by exact heap_alloc_new _ _)) rfl ⟨_, by rw [HE.out, HF.out]; rfl, by rw [HL.out]; exact Own.nil _ _ _, below_alloc _ _⟩

/-- A leaf: what it knows. -/
theorem LQ_leaf {t : List Int} {D : List Nd} {k : Nat} {d : Nd} (hk8 : k < 8) (hx : D[k]? = some d) (hlf : isLf t k = true) : LQ t D k = known k d.lev d.lcl := by
  rw [LQ_live t D k d hk8 hx]; unfold lvg; rw [if_pos hlf]
theorem isLf_of {t : List Int} {n : Int} (h : wrg t n = 0) : isNd t n = true ∧ isLf t n = true := by
  unfold wrg at h
  split at h
  · rename_i h1
    split at h
    · rename_i h2; exact ⟨h1, h2⟩
    · omega
  · omega
set_option maxHeartbeats 4000000 in
theorem sIngest_any (w : World) (own : Ghost) (B0 bs : Nat) (t : List Int) (wid : Int) (D : List Nd) (h : SR w own B0 bs t wid D) (hd : DI D 100000000) (hB0 : B0 ≤ w.heap.size) (n at' : Int) (key : ByteArray) (v : Int) (hks : key.size ≤ maxLen) (hv0 : -2147483648 ≤ v) (hv1 : v ≤ 2147483647) :
    Calls Try.prog 70 #[.pointer (some ⟨bs, 0, none⟩), .int .i64 n, .int .i64 at', .string key, .int .i32 v] w fun e w' => e = .returned (.int .i64 (ingE t wid D n at' key)) ∧ Chg SR w own B0 bs t wid (ingD t wid D n at' key v) w' := by
  obtain ⟨V, A, h⟩ := h
  have HT : Hid (PTree w bs t) := h.tree
  have HS : Hid (SRep w own B0 bs t wid D V A) := h
  have h8 := h.T.le
  have HC9 : Hid (w.cell? ⟨bs, 9, none⟩ = some (.int .i64 wid)) := h.width
  have w0 := h.wid0
  have w1' := h.wid1
  have HSAME : Hid (ingE t wid D n at' key ≠ 0 → ∀ w', Below w.heap.size w w' → Chg SR w own B0 bs t wid (ingD t wid D n at' key v) w') := fun he w' hb => ⟨own, by unfold ingD; rw [if_neg he]; exact ⟨V, A, h.below hb⟩, Same.refl _ _, Fr.of_below hb⟩
  by_cases h1 : wrg t n = 0
  · obtain ⟨h2, hlf⟩ := isLf_of h1
    obtain ⟨k, d, rfl, hk, hk8, hx⟩ := h.at n h2
    by_cases a0 : at' < 0 ∨ 20 * wid ≤ at'
    · have HE : Hid (ingE t wid D k at' key = 5) := by unfold Hid ingE; rw [if_pos h1, if_pos a0]
      have HW : Hid (wof wid at' = -1) := by unfold Hid wof; rw [if_pos a0]
      clear h a0
      go_enter Try.func70, Try.ntmps70
      go_wp2_with (first | (go_at_call 74; refine (leafError_any _ _ t HT.out _ h8).mono ?_; rintro e wA ⟨rfl, rfl⟩; rw [h1]) | (go_at_call 87; refine (windowOf_any _ _ wid HC9.out w0 w1' _).mono ?_; rintro e wA ⟨rfl, rfl⟩; rw [HW.out]))
      go_ret
      exact ⟨by rw [HE.out]; rfl, HSAME.out (by rw [HE.out]; decide) _ (Below.refl _ _)⟩
    · have q0 : 0 ≤ at' / wid := Int.ediv_nonneg (by omega) (by omega)
      have q1 : at' / wid < 20 := Int.ediv_lt_of_lt_mul (by omega) (by omega)
      obtain ⟨qn, hqn⟩ : ∃ qn : Nat, at' / wid = qn := ⟨(at' / wid).toNat, by omega⟩
      have HW : Hid (wof wid at' = qn) := by unfold Hid wof; rw [if_neg a0, hqn]
      have qb : qn < 20 := by omega
      have qi : ((qn : Int) == -1) = false := by simp
      by_cases a2 : 20 < key.size
      · have HE : Hid (ingE t wid D k at' key = 6) := by unfold Hid ingE; rw [if_pos h1, if_neg a0, if_pos a2]
        have hks' : (key.size : Int) ≤ 9223372036854775807 := by simp only [maxLen] at hks; omega
        clear h a0 q0 q1 hqn
        go_enter Try.func70, Try.ntmps70
        go_wp2_with (first | (go_at_call 74; refine (leafError_any _ _ t HT.out _ h8).mono ?_; rintro e wA ⟨rfl, rfl⟩; rw [h1]) | (go_at_call 87; refine (windowOf_any _ _ wid HC9.out w0 w1' _).mono ?_; rintro e wA ⟨rfl, rfl⟩; rw [HW.out]))
        go_ret
        exact ⟨by rw [HE.out]; rfl, HSAME.out (by rw [HE.out]; decide) _ (Below.refl _ _)⟩
      · have hLf := LQ_leaf (t := t) hk8 hx hlf
        have hit : itm k qn (LQ t D k) = ⟨k, qn, ((evK d.lev qn).length : Int), d.lcl qn, skOf (evK d.lev qn)⟩ := by rw [hLf]; exact known_itm k d.lev d.lcl qn qb
        have HG : Hid (LgR w bs (10 + k * 2) (V k).p (V k).n (V k).c (MQ D k) (LQ t D k)) := h.lgr hd k (by omega)
        obtain ⟨fb, hfb⟩ : ∃ fb, d.lcl qn = fb := ⟨_, rfl⟩
        have HFB : Hid ((itm k qn (LQ t D k)).fin = fb) := by unfold Hid; rw [hit]; exact hfb
        have hks' : (key.size : Int) ≤ 20 := by omega
        have k0 : (0 : Int) ≤ (k : Int) := by omega
        have k1 : (k : Int) < 8 := by omega
        cases fb with
        | true =>
          have HE : Hid (ingE t wid D k at' key = 7) := by unfold Hid ingE; rw [if_pos h1, if_neg a0, if_neg a2, if_pos (by simp [hx, hqn, hfb])]
          clear h a0 q0 q1 hqn hit hLf hfb
          go_enter Try.func70, Try.ntmps70
          go_wp2_with (first | (go_at_call 74; refine (leafError_any _ _ t HT.out _ h8).mono ?_; rintro e wA ⟨rfl, rfl⟩; rw [h1]) | (go_at_call 87; refine (windowOf_any _ _ wid HC9.out w0 w1' _).mono ?_; rintro e wA ⟨rfl, rfl⟩; rw [HW.out]) | (go_at_call 88; refine (lIsFinal_any _ _ _ _ _ _ _ _ HG.out _ _).mono ?_; rintro e w3 ⟨rfl, hb3⟩; rw [HFB.out]))
          go_ret
          exact ⟨by rw [HE.out]; rfl, HSAME.out (by rw [HE.out]; decide) _ hb3⟩
        | false =>
          have HE : Hid (ingE t wid D k at' key = 0) := by unfold Hid ingE; rw [if_pos h1, if_neg a0, if_neg a2, if_neg (by simp [hx, hqn, hfb])]
          have HD : Hid (ingD t wid D k at' key v = D.set k { d with lev := d.lev ++ [⟨qn, key, v⟩] }) := by unfold Hid ingD; rw [if_pos HE.out]; simp [hx, hqn]
          have hdk := hd k d hx
          have hev := h.ev k d hx
          have HIT : Hid ((itm k qn (LQ t D k)).sk.Ok ∧ 0 ≤ (itm k qn (LQ t D k)).ver ∧ (itm k qn (LQ t D k)).ver ≤ 1000000000) := by
            unfold Hid; rw [hit]
            have h5 := evK_len d.lev qn
            refine ⟨skOf_ok _ fun e he => ?_, by simp, by simp; omega⟩
            have h6 := (List.mem_filter.1 he).1
            obtain ⟨i, hi⟩ := List.getElem?_of_mem h6
            exact hev.1 i e hi
          have hlen : (LQ t D k).length ≤ 1000 := by have := (h.good hd k).len; omega
          have HLf : Hid (LQ t D k = known k d.lev d.lcl) := hLf
          have HX : Hid (D[k]? = some d) := hx
          have HLF : Hid (isLf t k = true) := hlf
          clear h a0 q0 q1 hqn hit hLf hfb hx hev hdk hlf
          go_enter Try.func70, Try.ntmps70
          go_wp2_with (first | (go_at_call 74; refine (leafError_any _ _ t HT.out _ h8).mono ?_; rintro e wA ⟨rfl, hwA⟩; have hwA := hwA.symm; subst hwA; rw [h1]) | (go_at_call 87; refine (windowOf_any _ _ wid HC9.out w0 w1' _).mono ?_; rintro e wA ⟨rfl, hwA⟩; have hwA := hwA.symm; subst hwA; rw [HW.out]) | (go_at_call 88; refine (lIsFinal_any _ _ _ _ _ _ _ _ HG.out _ _).mono ?_; rintro e w3 ⟨rfl, hb3⟩; rw [HFB.out]))
          have S3 := HS.out.below hb3
          refine (lAdd_any w3 B0 bs (10 + k * 2) A _ (V k).p (V k).n (V k).c (MQ D k) (LQ t D k) k qn key v hks hv0 hv1 S3.main (S3.is.sl k (by omega)) (S3.is.mrk k (by omega)) (S3.ow k (by omega)) (S3.ne k (by omega)) (Nat.le_trans hB0 hb3.size) hlen HIT.out.1 HIT.out.2).mono ?_
          rintro e w6 ⟨rfl, s6, ho6, pf6⟩
          have Z : Hid (Chg SR w own B0 bs t wid (ingD t wid D k at' key v) w6) := by
            unfold Hid
            have hkD : k < D.length := (List.getElem?_eq_some_iff.1 HX.out).1
            have hset : (D.set k { d with lev := d.lev ++ [⟨qn, key, v⟩] })[k]? = some { d with lev := d.lev ++ [⟨qn, key, v⟩] } := List.getElem?_set_self hkD
            have he := HS.out.ev k d HX.out
            rw [HD.out]
            refine HS.out.put k (by omega) s6 (pf6.pre hb3) ?_ (fun r hr => ?_) (fun r hr hne => ?_) (by simpa using HS.out.ld) (fun j d' hj => ?_)
            · have e1 := known_add k d.lev d.lcl ⟨qn, key, v⟩ qn qb rfl
              rw [HLf.out] at ho6
              rw [LQ_leaf hk8 hset HLF.out, e1]
              exact ho6
            · by_cases e : r = k
              · subst e; rw [MQ_live _ r _ hk8 hset, MQ_live D r d hk8 HX.out]
              · by_cases e2 : r = 8 + k
                · subst e2; rw [MQ_kept _ k _ hset, MQ_kept D k d HX.out]
                · exact MQ_set D k _ r e e2
            · by_cases e2 : r = 8 + k
              · subst e2; rw [LQ_kept t _ k _ hset, LQ_kept t D k d HX.out]; rfl
              · exact LQ_set t D k _ r hne e2
            · by_cases e : k = j
              · subst e
                rw [hset] at hj; cases hj
                refine ⟨fun i ev hi => ?_, he.2⟩
                have hi' : (d.lev ++ [(⟨qn, key, v⟩ : Ev3)])[i]? = some ev := hi
                rcases Nat.lt_or_ge i d.lev.length with hlt | hge
                · rw [List.getElem?_append_left hlt] at hi'; exact he.1 i ev hi'
                · rw [List.getElem?_append_right hge] at hi'
                  have := List.mem_of_getElem? hi'
                  rw [List.mem_singleton] at this
                  rw [this]; exact ⟨by show (0 : Int) ≤ qn; omega, by show (qn : Int) < 20; omega, hks, hv0, hv1⟩
              · rw [List.getElem?_set_ne e] at hj; exact HS.out.ev j d' hj
          clear ho6 pf6 S3
          go_wp2
          go_ret
          exact ⟨by rw [HE.out]; rfl, Z.out⟩
  · have HE : Hid (ingE t wid D n at' key = wrg t n) := by unfold Hid ingE; rw [if_neg h1]
    clear h
    have hb : (wrg t n == 0) = false := by simpa using h1
    have hb2 : (wrg t n != 0) = true := by simpa using h1
    go_enter Try.func70, Try.ntmps70
    go_wp2_with (go_at_call 74; refine (leafError_any _ _ t HT.out _ h8).mono ?_; rintro e wA ⟨rfl, rfl⟩)
    go_ret
    exact ⟨by rw [HE.out]; rfl, HSAME.out (by rw [HE.out]; exact h1) _ (Below.refl _ _)⟩
end Go.Proofs.Ytpglbakcjihohaa

/-! The program's Advance, for every leaf. -/
namespace Go.Proofs.Ytpglbakcjihohaa
open Go.RowKit
set_option maxRecDepth 100000

theorem Chg.trans {SR : SRT} {w w1 w2 : World} {own own1 : Ghost} {B0 bs : Nat} {t : List Int} {wid : Int} {D2 : List Nd} (s : Same w own own1) (f : Fr own isSt w w1) (h : Chg SR w1 own1 B0 bs t wid D2 w2) : Chg SR w own B0 bs t wid D2 w2 := by
  obtain ⟨own2, h1, h2, h3⟩ := h
  exact ⟨own2, h1, s.trans f.size h2, f.trans s h3⟩
theorem DI.set {D : List Nd} {M k : Nat} {d' : Nd} (h : DI D M) (hd : d'.lev.length ≤ M ∧ d'.kev.length ≤ M ∧ Good d'.items ∧ Good d'.saved) : DI (D.set k d') M := fun j d hj => by
  by_cases e : k = j
  · subst e
    rw [List.getElem?_set] at hj
    simp only [if_true] at hj
    split at hj
    · cases hj; exact hd
    · cases hj
  · rw [List.getElem?_set_ne e] at hj; exact h j d hj
def advJ (D : List Nd) (k : Nat) (d : Nd) (wid tm : Int) (j : Nat) : List Nd := D.set k { d with lmk := tm, lcl := clTo d.lcl wid tm j }
theorem clTo_zero (cl : Nat → Bool) (wid tm : Int) : clTo cl wid tm 0 = cl := by funext i; simp [clTo]
theorem clTo_end (cl : Nat → Bool) (wid tm : Int) (j : Nat) (hj : j ≤ 20) (w0 : 1 ≤ wid) (h : j = 20 ∨ tm < ((j : Int) + 1) * wid) : clTo cl wid tm j = clTo cl wid tm 20 := by
  rcases h with rfl | h
  · rfl
  · funext i
    unfold clTo
    by_cases hi : i < j
    · by_cases hc : ((i : Int) + 1) * wid ≤ tm
      · rw [if_pos ⟨hi, hc⟩, if_pos ⟨by omega, hc⟩]
      · rw [if_neg (fun h => hc h.2), if_neg (fun h => hc h.2)]
    · have : ((j : Int) + 1) * wid ≤ ((i : Int) + 1) * wid := Int.mul_le_mul_of_nonneg_right (by omega) (by omega)
      rw [if_neg (fun h => hi h.1), if_neg (fun h => by have := h.2; omega)]
theorem SRep.setMark {w : World} {own : Ghost} {B0 bs : Nat} {t : List Int} {wid : Int} {D : List Nd} {V : Nat → Sl} {A : Array Value} (h : SRep w own B0 bs t wid D V A) (k : Nat) (d : Nd) (hk8 : k < 8) (hx : D[k]? = some d) (tm : Int) (t0 : 0 ≤ tm) (t1 : tm ≤ 20000) :
    Chg SR w own B0 bs t wid (D.set k { d with lmk := tm }) (w.setCell ⟨bs, 10 + k * 2 + 1, none⟩ (.int .i64 tm)) := by
  have hkD : k < D.length := (List.getElem?_eq_some_iff.1 hx).1
  have hset : (D.set k { d with lmk := tm })[k]? = some { d with lmk := tm } := List.getElem?_set_self hkD
  have hbs := lt_of_blk h.main
  have he := h.ev k d hx
  have eV : updV V k (V k) = V := by funext r; simp only [updV]; split <;> simp_all
  refine h.gen k (by omega) (V k) (A' := A.setIfInBounds (10 + k * 2 + 1) (.int .i64 tm)) rfl rfl rfl (by simp) (fun j hj h1 _ => heap_setCell_other _ _ _ _ (by show j ≠ bs; exact h1)) (by rw [heap_setCell_same _ _ _ _ _ _ h.main]) ?_ ?_ (fun g e => .inl e) (fun r hr hne => ?_) (by simpa using h.ld) (fun j d' hj => ?_)
  · rw [eV]
    refine h.is.setMk h.T.le k (by omega) tm (MQ_live _ k _ hk8 hset) fun r hr hne => ?_
    by_cases e2 : r = 8 + k
    · subst e2; rw [MQ_kept _ k _ hset, MQ_kept D k d hx]
    · exact MQ_set D k _ r hne e2
  · rw [LQ_live t _ k _ hk8 hset]
    have := h.ow k (by omega)
    rw [LQ_live t D k d hk8 hx] at this
    exact this.chg fun j hj => heap_setCell_other _ _ _ _ (by show j ≠ bs; intro e; exact h.ne k (by omega) (by rw [hj, e]))
  · by_cases e2 : r = 8 + k
    · subst e2; rw [LQ_kept t _ k _ hset, LQ_kept t D k d hx]; rfl
    · exact LQ_set t D k _ r hne e2
  · by_cases e : k = j
    · subst e
      rw [hset] at hj; cases hj
      exact ⟨he.1, he.2.1, he.2.2.1, he.2.2.2.1, t0, t1, he.2.2.2.2.2.2⟩
    · rw [List.getElem?_set_ne e] at hj; exact h.ev j d' hj
theorem SRep.closed {w w' : World} {own : Ghost} {B0 bs : Nat} {t : List Int} {wid : Int} {D : List Nd} {V : Nat → Sl} {A : Array Value} (h : SRep w own B0 bs t wid D V A) (k : Nat) (d : Nd) (hk8 : k < 8) (hx : D[k]? = some d) (hlf : isLf t k = true) (j : Nat) (hj : j < 20) (s : Sl) (pf : PF w w' bs (10 + k * 2) A 99 (V k).val s.val)
    (ho : Own clIt w' B0 78 s.val (pin { itm k j (LQ t D k) with fin := true } (LQ t D k))) : Chg SR w own B0 bs t wid (D.set k { d with lcl := fun i => if i = j then true else d.lcl i }) w' := by
  have hkD : k < D.length := (List.getElem?_eq_some_iff.1 hx).1
  have hset : (D.set k { d with lcl := fun i => if i = j then true else d.lcl i })[k]? = some { d with lcl := fun i => if i = j then true else d.lcl i } := List.getElem?_set_self hkD
  have he := h.ev k d hx
  refine h.put k (by omega) s pf ?_ (fun r hr => ?_) (fun r hr hne => ?_) (by simpa using h.ld) (fun i d' hi => ?_)
  · rw [LQ_leaf hk8 hset hlf]
    rw [LQ_leaf hk8 hx hlf, ← known_close k d.lev d.lcl j hj] at ho
    exact ho
  · by_cases e : r = k
    · subst e; rw [MQ_live _ r _ hk8 hset, MQ_live D r d hk8 hx]
    · by_cases e2 : r = 8 + k
      · subst e2; rw [MQ_kept _ k _ hset, MQ_kept D k d hx]
      · exact MQ_set D k _ r e e2
  · by_cases e2 : r = 8 + k
    · subst e2; rw [LQ_kept t _ k _ hset, LQ_kept t D k d hx]; rfl
    · exact LQ_set t D k _ r hne e2
  · by_cases e : k = i
    · subst e
      rw [hset] at hi; cases hi
      exact he
    · rw [List.getElem?_set_ne e] at hi; exact h.ev i d' hi
set_option maxHeartbeats 4000000 in
theorem sAdvance_any (w : World) (own : Ghost) (B0 bs : Nat) (t : List Int) (wid : Int) (D : List Nd) (h : SR w own B0 bs t wid D) (hd : DI D 100000000) (hB0 : B0 ≤ w.heap.size) (n tm : Int) :
    Calls Try.prog 55 #[.pointer (some ⟨bs, 0, none⟩), .int .i64 n, .int .i64 tm] w fun e w' => e = .returned (.int .i64 (advE t wid D n tm)) ∧ Chg SR w own B0 bs t wid (advD t wid D n tm) w' := by
  obtain ⟨V, A, h⟩ := h
  have HT : Hid (PTree w bs t) := h.tree
  have HS : Hid (SRep w own B0 bs t wid D V A) := h
  have h8 := h.T.le
  have HC9 : Hid (w.cell? ⟨bs, 9, none⟩ = some (.int .i64 wid)) := h.width
  have w0 := h.wid0
  have w1' := h.wid1
  have HSAME : Hid (advE t wid D n tm ≠ 0 → Chg SR w own B0 bs t wid (advD t wid D n tm) w) := fun he => ⟨own, by unfold advD; rw [if_neg he]; exact ⟨V, A, h⟩, Same.refl _ _, Fr.refl _ _ _⟩
  by_cases h1 : wrg t n = 0
  · obtain ⟨h2, hlf⟩ := isLf_of h1
    obtain ⟨k, d, rfl, hk, hk8, hx⟩ := h.at n h2
    have hev := h.ev k d hx
    obtain ⟨lm, hlm⟩ : ∃ lm, d.lmk = lm := ⟨_, rfl⟩
    have HCM : Hid (w.cell? ⟨bs, 10 + k * 2 + 1, none⟩ = some (.int .i64 lm)) := by unfold Hid; rw [cell_of_row _ _ _ _ _ _ h.main, ← hlm, ← MQ_live D k d hk8 hx]; exact h.is.mrk k (by omega)
    obtain ⟨en, hen⟩ : ∃ en, en = 20 * wid := ⟨_, rfl⟩
    have HEN : Hid ((((19 : Nat) : Int) + 1) * wid = en) := by unfold Hid; rw [hen]; rfl
    have HENB : Hid (en = 20 * wid) := hen
    have enb : en ≤ 20000 := by omega
    have k0 : (0 : Int) ≤ (k : Int) := by omega
    have k1 : (k : Int) < 8 := by omega
    clear hen
    by_cases a0 : tm < lm
    · have HE : Hid (advE t wid D k tm = 5) := by unfold Hid advE; rw [if_pos h1, if_pos (.inl (by simp [hx, hlm]; exact a0))]
      clear h hev hlm hx
      go_enter Try.func55, Try.ntmps55
      go_wp2_with (first | (go_at_call 74; refine (leafError_any _ _ t HT.out _ h8).mono ?_; rintro e wA ⟨rfl, hwA⟩; have hwA := hwA.symm; subst hwA; rw [h1]) | (go_at_call 75; refine (windowEnd_any _ _ wid HC9.out w0 w1' 19 (by omega)).mono ?_; rintro e wA ⟨rfl, hwA⟩; have hwA := hwA.symm; subst hwA; rw [HEN.out]) | (go_at_call 76; refine (lWatermark_any _ _ _ _ HCM.out).mono ?_; rintro e wA ⟨rfl, hwA⟩; have hwA := hwA.symm; subst hwA))
      go_ret
      exact ⟨by rw [HE.out]; rfl, HSAME.out (by rw [HE.out]; decide)⟩
    · by_cases a1 : en < tm
      · have HE : Hid (advE t wid D k tm = 5) := by unfold Hid advE; rw [if_pos h1, if_pos (.inr (by have := HENB.out; omega))]
        clear h hev hlm hx
        go_enter Try.func55, Try.ntmps55
        go_wp2_with (first | (go_at_call 74; refine (leafError_any _ _ t HT.out _ h8).mono ?_; rintro e wA ⟨rfl, hwA⟩; have hwA := hwA.symm; subst hwA; rw [h1]) | (go_at_call 75; refine (windowEnd_any _ _ wid HC9.out w0 w1' 19 (by omega)).mono ?_; rintro e wA ⟨rfl, hwA⟩; have hwA := hwA.symm; subst hwA; rw [HEN.out]) | (go_at_call 76; refine (lWatermark_any _ _ _ _ HCM.out).mono ?_; rintro e wA ⟨rfl, hwA⟩; have hwA := hwA.symm; subst hwA))
        go_ret
        exact ⟨by rw [HE.out]; rfl, HSAME.out (by rw [HE.out]; decide)⟩
      · have HE : Hid (advE t wid D k tm = 0) := by
          have e : ((D[((k : Int)).toNat]?).map fun d => d.lmk).getD 0 = lm := by simp [hx, hlm]
          unfold Hid advE; rw [if_pos h1, if_neg (by rw [e]; have := HENB.out; omega)]
        have HD : Hid (advD t wid D k tm = advJ D k d wid tm 20) := by unfold Hid advD advJ; rw [if_pos HE.out]; simp [hx]
        have hlm0 : 0 ≤ lm := by rw [← hlm]; exact hev.2.2.2.2.1
        have HC0 : Hid (Chg SR w own B0 bs t wid (advJ D k d wid tm 0) (w.setCell ⟨bs, 10 + k * 2 + 1, none⟩ (.int .i64 tm))) := by
          unfold Hid advJ; rw [clTo_zero]; exact h.setMark k d hk8 hx tm (by omega) (by omega)
        have HMM : Hid (A[10 + k * 2 + 1]? = some (.int .i64 lm)) := by unfold Hid; rw [← hlm, ← MQ_live D k d hk8 hx]; exact h.is.mrk k (by omega)
        have HDJ : Hid (∀ j, DI (advJ D k d wid tm j) 100000000 ∧ (advJ D k d wid tm j)[k]? = some { d with lmk := tm, lcl := clTo d.lcl wid tm j }) := fun j => ⟨hd.set (hd k d hx), List.getElem?_set_self (List.getElem?_eq_some_iff.1 hx).1⟩
        have HLF : Hid (isLf t k = true) := hlf
        clear h hev hlm hx hlf
        go_enter Try.func55, Try.ntmps55
        go_wp2_with (first | (go_at_call 74; refine (leafError_any _ _ t HT.out _ h8).mono ?_; rintro e wA ⟨rfl, hwA⟩; have hwA := hwA.symm; subst hwA; rw [h1]) | (go_at_call 75; refine (windowEnd_any _ _ wid HC9.out w0 w1' 19 (by omega)).mono ?_; rintro e wA ⟨rfl, hwA⟩; have hwA := hwA.symm; subst hwA; rw [HEN.out]) | (go_at_call 76; refine (lWatermark_any _ _ _ _ HCM.out).mono ?_; rintro e wA ⟨rfl, hwA⟩; have hwA := hwA.symm; subst hwA) | (go_at_call 77; refine (lSetWatermark_any _ _ _ A _ lm tm HS.out.main HMM.out).mono ?_; rintro e w2 ⟨rfl, hw2⟩; rw [← hw2] at HC0; clear hw2))
        go_loopw [9] (fun i wr => ∃ j : Nat, j ≤ 20 ∧ i = .int .i64 j ∧ Chg SR w own B0 bs t wid (advJ D k d wid tm j) wr) (fun i _ => 20 - (intOf i).toNat)
        case atStart => exact ⟨0, by omega, rfl, HC0.out⟩
        case round =>
          clear HC0 HC9 HCM HMM HT
          obtain ⟨j, hj, rfl, ch⟩ := hrel
          obtain ⟨own1, ⟨V1, A1, S1⟩, sm1, fr1⟩ := ch
          have HCH : Hid (Chg SR w own B0 bs t wid (advJ D k d wid tm j) wr) := ⟨own1, ⟨V1, A1, S1⟩, sm1, fr1⟩
          have HS1 : Hid (SRep wr own1 B0 bs t wid (advJ D k d wid tm j) V1 A1) := S1
          have HSF : Hid (Same w own own1 ∧ Fr own isSt w wr) := ⟨sm1, fr1⟩
          clear S1 sm1 fr1
          by_cases hlt : j < 20
          · obtain ⟨ej, hej⟩ : ∃ ej, ej = ((j : Int) + 1) * wid := ⟨_, rfl⟩
            have HEJ : Hid (((j : Int) + 1) * wid = ej) := hej.symm
            clear hej
            by_cases hin : ej ≤ tm
            · have hlen : (LQ t (advJ D k d wid tm j) k).length ≤ 1000 := by have := (HS1.out.good (HDJ.out j).1 k).len; omega
              go_wp2_with (go_at_call 75; refine (windowEnd_any _ _ wid HS1.out.width w0 w1' j hlt).mono ?_; rintro e wA ⟨rfl, hwA⟩; have hwA := hwA.symm; subst hwA; rw [HEJ.out])
              refine (lClose_any wr B0 bs (10 + k * 2) A1 _ (V1 k).p (V1 k).n (V1 k).c (MQ (advJ D k d wid tm j) k) (LQ t (advJ D k d wid tm j) k) k j HS1.out.main (HS1.out.is.sl k (by omega)) (HS1.out.is.mrk k (by omega)) (HS1.out.ow k (by omega)) (HS1.out.ne k (by omega)) (Nat.le_trans hB0 HSF.out.2.size) hlen).mono ?_
              rintro e w6 ⟨rfl, s6, ho6, pf6⟩
              have Z : Hid (Chg SR w own B0 bs t wid (advJ D k d wid tm (j + 1)) w6) := by
                unfold Hid
                refine Chg.trans HSF.out.1 HSF.out.2 ?_
                have z := HS1.out.closed k _ hk8 (HDJ.out j).2 HLF.out j hlt s6 pf6 ho6
                have e : (advJ D k d wid tm j).set k { d with lmk := tm, lcl := fun i => if i = j then true else clTo d.lcl wid tm j i } = advJ D k d wid tm (j + 1) := by
                  unfold advJ; rw [List.set_set, clTo_yes d.lcl wid tm j (by rw [HEJ.out]; exact hin)]
                rw [← e]; exact z
              clear ho6 pf6
              go_wp2
              go_roundw
              case rel => exact ⟨j + 1, by omega, by go_num, Z.out⟩
              case measure => simp [intOf]; omega
            · have HEND : Hid (advJ D k d wid tm j = advJ D k d wid tm 20) := by unfold Hid advJ; rw [clTo_end d.lcl wid tm j hj w0 (.inr (by rw [HEJ.out]; omega))]
              go_wp2_with (go_at_call 75; refine (windowEnd_any _ _ wid HS1.out.width w0 w1' j hlt).mono ?_; rintro e wA ⟨rfl, hwA⟩; have hwA := hwA.symm; subst hwA; rw [HEJ.out])
              go_ret
              exact ⟨by rw [HE.out]; rfl, by rw [HD.out, ← HEND.out]; exact HCH.out⟩
          · obtain rfl : j = 20 := by omega
            go_wp2
            go_ret
            exact ⟨by rw [HE.out]; rfl, by rw [HD.out]; exact HCH.out⟩
  · have HE : Hid (advE t wid D n tm = wrg t n) := by unfold Hid advE; rw [if_neg h1]
    clear h
    have hb : (wrg t n == 0) = false := by simpa using h1
    have hb2 : (wrg t n != 0) = true := by simpa using h1
    go_enter Try.func55, Try.ntmps55
    go_wp2_with (go_at_call 74; refine (leafError_any _ _ t HT.out _ h8).mono ?_; rintro e wA ⟨rfl, rfl⟩)
    go_ret
    exact ⟨by rw [HE.out]; rfl, HSAME.out (by rw [HE.out]; exact h1)⟩
end Go.Proofs.Ytpglbakcjihohaa

/-! The document's Send, for every node and windows. -/
namespace Go.Proofs.Ytpglbakcjihohaa
open Go.RowKit
set_option maxRecDepth 100000

structure SW (w wr : World) (g B1 : Nat) (n : Int) (v : Value) (p : Option Addr) (L o : List It) : Prop where
  below : Below w.heap.size w wr
  r : wr.heap[w.heap.size]? = some (.cells #[.int .i64 0, .slice none 0 0] 88)
  m : wr.heap[g]? = some (.cells #[.int .i64 n, v] 88)
  rows : RowsAt clIt wr p L
  own : Own clIt wr B1 78 v o
  low : B1 ≤ wr.heap.size
  hp : L = [] ∨ ∀ b off, p = some ⟨b, off, none⟩ → b < B1 ∧ b ≠ g
  hg : g < B1
  hw : w.heap.size < g
theorem SW.step {w wr wA w2 : World} {g B1 : Nat} {n : Int} {v v' : Value} {p : Option Addr} {L o o' : List It} (h : SW w wr g B1 n v p L o) (hA : Below wr.heap.size wr wA) (g1 : wA.grownBy w2 v.ownBlock) (o1 : Own clIt w2 B1 78 v' o') : SW w (w2.setCell ⟨g, 1, none⟩ v') g B1 n v' p L o' := by
  have hsz : (w2.setCell ⟨g, 1, none⟩ v').heap.size = w2.heap.size := by simp
  have blk : ∀ j, j < B1 → w2.heap[j]? = wr.heap[j]? := fun j hj => by
    rw [g1.block j (by have := h.low; have := hA.size; omega) (fun e => by have := (h.own.lt j e.symm).1; omega)]
    exact hA.block j (by have := h.low; omega)
  have blk2 : ∀ j, j < B1 → j ≠ g → (w2.setCell ⟨g, 1, none⟩ v').heap[j]? = wr.heap[j]? := fun j hj hne => by
    rw [heap_setCell_other _ _ _ _ (by show j ≠ g; exact hne)]; exact blk j hj
  have hs1 := h.low
  have hs2 := hA.size
  have hs3 := g1.size
  have hg := h.hg
  have hw := h.hw
  refine ⟨⟨?_, ?_, ?_, ?_, fun j hj => ?_⟩, ?_, ?_, ?_, ?_, by omega, h.hp, h.hg, h.hw⟩
  · exact (g1.os.trans hA.os).trans h.below.os
  · exact (g1.tape.trans hA.tape).trans h.below.tape
  · exact (g1.output.trans hA.output).trans h.below.output
  · omega
  · rw [blk2 j (by omega) (by omega)]; exact h.below.block j hj
  · rw [blk2 _ (by omega) (by omega)]; exact h.r
  · have := blk g hg
    rw [h.m] at this
    rw [heap_setCell_same _ _ _ _ _ _ this]
    rfl
  · rcases h.hp with e | hp
    · exact .inl e
    · exact h.rows.chg (by omega) fun b off e => blk2 b (hp b off e).1 (hp b off e).2
  · exact o1.chg fun j hj => heap_setCell_other _ _ _ _ (by show j ≠ g; have := (o1.lt j hj).1; omega)
end Go.Proofs.Ytpglbakcjihohaa

/-! The document's Deliver, for every node and packet. -/
namespace Go.Proofs.Ytpglbakcjihohaa
open Go.RowKit
set_option maxRecDepth 100000

end Go.Proofs.Ytpglbakcjihohaa

/-! A game in memory: the program's store, the document's, the packets laid by, the book; what a step leaves of it. -/
namespace Go.Proofs.Ytpglbakcjihohaa
open Go.RowKit
set_option maxRecDepth 100000

/-! ### Answers compared -/
theorem cellsOf_an : Try.prog.cellsOf 63 = 30 := by kernel_rfl
theorem keys_an {A : Array Value} {x : An} (hA : IsAn A x) (ok : x.Ok) : ∃ la, Try.prog.keyLits 4 63 A.toList = some la := by
  have hl : A.toList.length = 30 := by simpa using hA.size
  obtain ⟨a0, a1⟩ := ok.closed
  have e4 : (A.toList.drop 0).take 28 = x.sk.cells.toList := by
    rw [show A.toList = x.cells from hA, An.cells]
    rw [List.drop_zero, List.take_append_of_le_length (by simp [Sk.size_cells]), List.take_of_length_le (by simp [Sk.size_cells])]
  obtain ⟨y0, k0⟩ := keys_sk (A := x.sk.cells) (s := x.sk) rfl ok.sk
  rw [← e4] at k0
  obtain ⟨y1, k1⟩ := keys_bool (cs := A.toList) (b := x.sealed) (i := 28) 2 (by simpa using hA.get28)
  obtain ⟨y2, k2⟩ := keys_int (cs := A.toList) (n := x.closed) (k := .i64) (i := 29) 2 Try.underlying3 (by simpa using hA.get29) (by simp [Lit.wf, IntKind.min, IntKind.max, IntKind.signed, IntKind.bits]; omega)
  refine ⟨[y0, y1, y2].flatten, ?_⟩
  rw [show (4 : Nat) = 3 + 1 from rfl]
  unfold Program.keyLits
  rw [Try.underlying63]
  simp only [hl, cellsOf_an, cellsOf_int, cellsOf_bool, cellsOf_sk, List.mapM_cons, List.mapM_nil, k0, k1, k2]
  simp
theorem eqAt_an : EqAt Try.prog 10000 63 := run_equalIn_deep 9996 4 63 (by kernel_rfl)
theorem eq_an {A : Array Value} {x : An} (hA : IsAn A x) (ok : x.Ok) (w : World) : (Op.equalIn 10000 63 (.agg A) (.agg A)).run Try.prog w = .ok true w := by
  obtain ⟨la, ha⟩ := keys_an hA ok
  have hf : (Value.agg A).formed Try.prog 63 = true := by
    simp only [Value.formed, Try.underlying63, hA.size, cellsOf_an]; rfl
  obtain ⟨r, hr, hi⟩ := eqAt_an w 4 4 (.agg A) (.agg A) la la hf hf ha ha
  rw [hr, hi.2 rfl]
theorem eqlop_an {A : Array Value} {x : An} (hA : IsAn A x) (ok : x.Ok) (w : World) : (binOp .eql 63 (.agg A) (.agg A)).run Try.prog w = .ok (.bool true) w := by
  rw [run_eql_struct, eq_an hA ok]; rfl
theorem guard_an : Try.prog.eqGuardType Try.prog.depth 63 = false := by kernel_rfl
section
variable {ops : Array Oper} {rest : List Oper} {o : Oper} {a : Act} {w : World} {Q : Exit → Act → World → Prop}
theorem eql_an (hw : Region.wanted o (yielded ops a.tmps) = true) (x y : Operand) (t' : TypeId) (ho : o.op = .binOp .eql 63 x y t') (A : Array Value) (s : An) (hA : IsAn A s) (ok : s.Ok) (hx : a.eval x = .agg A) (hy : a.eval y = .agg A)
    (h : wpList Try.prog ops Q rest (a.put o.dst (.bool true)) w) : wpList Try.prog ops Q (o :: rest) a w :=
  wpList_step fun _ hK => by
    rw [if_pos hw]
    unfold Oper.wp execOp
    simp only [ho, hx, hy, Sem.run_bind, run_eqGuard_agg w .eql _ x y A A guard_an, Result.andThen_ok, eqlop_an hA ok, Sem.run_pure]
    exact hK _ _ h
end
theorem IsAn.eq {A B : Array Value} {x : An} (h : IsAn A x) (k : IsAn B x) : A = B := by
  have : A.toList = B.toList := by rw [show A.toList = x.cells from h, show B.toList = x.cells from k]
  exact Array.toList_inj.1 this
theorem askAn_ok {t : List Int} {l : List It} (h : AllOkI l) (hl : l.length ≤ 160) (n low high : Int) : (askAn t l n low high).Ok := by
  unfold askAn
  split
  · refine ⟨skAll_ok fun x hx => h.mem (List.mem_filter.1 hx).1, ?_⟩
    have h1 := cnt_le (l.filter (inRg low high))
    have h2 := List.length_filter_le (inRg low high) l
    constructor
    · show (-9223372036854775808 : Int) ≤ ((cnt (l.filter (inRg low high)) : Nat) : Int); omega
    · show ((cnt (l.filter (inRg low high)) : Nat) : Int) ≤ 9223372036854775807; omega
  · exact An.zero_ok

/-! ### A step of a script -/
structure Stp where
  kind : Int
  a : Int
  b : Int
  c : Int
  key : ByteArray
  v : Int
  fr : Int
  s : Sl
def Stp.arr (x : Stp) : Array Value := #[.int .i64 x.kind, .int .i64 x.a, .int .i64 x.b, .int .i64 x.c, .string x.key, .int .i32 x.v, .int .i64 x.fr, .slice x.s.p x.s.n x.s.c]
abbrev clStp : Cl Stp := ⟨fun x => [.int .i64 x.kind, .int .i64 x.a, .int .i64 x.b, .int .i64 x.c, .string x.key, .int .i32 x.v, .int .i64 x.fr, .slice x.s.p x.s.n x.s.c], 8, by decide, fun _ => rfl, fun _ v hv => by
  simp only [List.mem_cons, List.not_mem_nil, or_false] at hv
  rcases hv with rfl | rfl | rfl | rfl | rfl | rfl | rfl | rfl <;> rfl⟩
theorem Stp.clsize : clStp.size = 8 := rfl
/-- A step's numbers fit; its packet's items lie in memory, in a block that the game does not touch. -/
structure StpOk (w : World) (own : Ghost) (x : Stp) : Prop where
  kind : fitsI x.kind
  a : fitsI x.a
  b : fitsI x.b
  c : fitsI x.c
  key : x.key.size ≤ maxLen
  v0 : -2147483648 ≤ x.v
  v1 : x.v ≤ 2147483647
  fr : fitsI x.fr
  small : x.s.n ≤ 100000000
  pk : ∃ l : List It, l.length = x.s.n ∧ RowsAt clIt w x.s.p l ∧ AllOkI l ∧ (l = [] ∨ ∀ b off, x.s.p = some ⟨b, off, none⟩ → own b = .arg)

/-! ### The game -/
/-- A packet that was laid by. -/
def PkIn (w : World) (own : Ghost) (x : Pk) : Prop := fitsI x.fr ∧ ∃ l : List It, l.length = x.s.n ∧ RowsAt clIt w x.s.p l ∧ AllOkI l ∧ x.s.n ≤ 160 ∧ ∀ b off, x.s.p = some ⟨b, off, none⟩ → b < w.heap.size ∧ own b = .ldI
theorem PkIn.chg {w w' : World} {own own' : Ghost} {x : Pk} (h : PkIn w own x) {S : Tag → Prop} (f : Fr own S w w') (s : Same w own own') (h1 : ¬ S .ldI) : PkIn w' own' x := by
  obtain ⟨h0, l, h2, h3, h4, h5, h6⟩ := h
  refine ⟨h0, l, h2, h3.chg f.size fun b off e => ?_, h4, h5, fun b off e => ?_⟩
  · obtain ⟨hb, ho⟩ := h6 b off e
    exact f.block b hb (by rw [ho]; simp) (by rw [ho]; exact h1)
  · obtain ⟨hb, ho⟩ := h6 b off e
    exact ⟨Nat.lt_of_lt_of_le hb f.size, by rw [s b hb (by rw [ho]; simp)]; exact ho⟩
def notArg (t : Tag) : Prop := t ≠ .arg
theorem DI.mono {D : List Nd} {m m' : Nat} (h : DI D m) (hm : m ≤ m') : DI D m' := fun k d hk => by have := h k d hk; exact ⟨by omega, by omega, this.2.2⟩
theorem PR.below {SR : SRT} (R : PR SR) {w w' : World} {own : Ghost} {B0 bs : Nat} {t : List Int} {wid : Int} {D : List Nd} (h : SR w own B0 bs t wid D) (hb : Below w.heap.size w w') : SR w' own B0 bs t wid D :=
  R.chg h (Fr.of_below (S := fun _ => False) hb) (Same.refl _ _) fun _ h => h
/-- All that is not there yet is nobody's. -/
def cutO (w : World) (own : Ghost) : Ghost := fun k => if k < w.heap.size then own k else .free
theorem cut_same (w : World) (own : Ghost) : Same w own (cutO w own) := fun k hk _ => if_pos hk
theorem cut_free (w : World) (own : Ghost) {v : Value} (h : ∀ k, v.ownBlock = some k → w.heap.size ≤ k) : TgV (cutO w own) v .free := fun k hk => if_neg (by have := h k hk; omega)
theorem below_drew {w : World} : Below w.heap.size w w.drew := ⟨rfl, rfl, rfl, Nat.le_refl _, fun _ _ => rfl⟩
theorem cut_at (w : World) (own : Ghost) (k : Nat) (h : w.heap.size ≤ k) : cutO w own k = .free := if_neg (by omega)
theorem DI.lev {D : List Nd} {m : Nat} (h : DI D m) (hm : m ≤ 100000000) : ∀ (k : Nat) (d : Nd), D[k]? = some d → d.lev.length ≤ 1000000000 := fun k d hd => by have := (h k d hd).1; omega
theorem DI.kev {D : List Nd} {m : Nat} (h : DI D m) (hm : m ≤ 100000000) : ∀ (k : Nat) (d : Nd), D[k]? = some d → d.kev.length ≤ 1000000000 := fun k d hd => by have := (h k d hd).2.1; omega
end Go.Proofs.Ytpglbakcjihohaa
