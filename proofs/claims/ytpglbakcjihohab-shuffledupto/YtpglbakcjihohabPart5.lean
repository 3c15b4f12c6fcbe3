/-
  Own texts, laid together: The program's New: a tree is made of the list, or refused; the store that comes out. The program keeps every contract that the walk of the law asks. The small functions of the statements that build trees: a tree out of raw numbers, a leaf, the leaves, a copy, a key cut short. What the stores hold, whatever came about: every item outside its leaf is the sketch of the first so many stored events of its leaf and window (no program is named here). The sketch of a list of events: how many, their sum, the least, the greatest; cut anywhere the pieces merge to the whole; a key that was there changes no register (no program is named here). What a run has in memory: the program's store, the tree, each node's own book of events, the packets that were laid by. A run takes an event in. A run takes an event in: the walk.
-/
import Derived.Test.YtpglbakcjihohabRows
import Derived.Test.YtpglbakcjihohabPart4
set_option linter.unusedSimpArgs false
set_option linter.unusedVariables false
set_option linter.deprecated false
/-! The program's New: a tree is made of the list, or refused; the store that comes out. -/
namespace Go.Proofs.Ytpglbakcjihohab
open Go.RowKit
set_option maxRecDepth 100000

def mbp (i : Nat) (x : Int) : Bool := decide (if i = 0 then x = -1 else 0 ≤ x ∧ x < i)
set_option maxHeartbeats 400000 in
theorem mayBeParent_any (i : Nat) (x : Int) (w : World) :
    Calls Try.prog 70 #[.int .i64 i, .int .i64 x] w fun e w' => e = .returned (.bool (mbp i x)) ∧ w' = w := by
  by_cases h0 : i = 0
  · subst h0
    by_cases h1 : x = -1
    · have H : Hid (mbp 0 x = true) := by unfold Hid mbp; simp [h1]
      subst h1
      go_enter Try.func70, Try.ntmps70
      go_wp2
      go_ret
      exact ⟨by rw [H.out]; rfl, rfl⟩
    · have H : Hid (mbp 0 x = false) := by unfold Hid mbp; simp [h1]
      have hb : (x == -1) = false := by simp [h1]
      go_enter Try.func70, Try.ntmps70
      go_wp2
      go_ret
      exact ⟨by rw [H.out]; rfl, rfl⟩
  · have hb0 : ((i : Int) == 0) = false := by simp; omega
    by_cases h1 : 0 ≤ x
    · by_cases h2 : x < i
      · have H : Hid (mbp i x = true) := by unfold Hid mbp; simp [h0, h1, h2]
        go_enter Try.func70, Try.ntmps70
        go_wp2
        go_ret
        exact ⟨by rw [H.out]; rfl, rfl⟩
      · have H : Hid (mbp i x = false) := by unfold Hid mbp; simp [h0, h2]
        go_enter Try.func70, Try.ntmps70
        go_wp2
        go_ret
        exact ⟨by rw [H.out]; rfl, rfl⟩
    · have H : Hid (mbp i x = false) := by unfold Hid mbp; simp [h0, h1]
      go_enter Try.func70, Try.ntmps70
      go_wp2
      go_ret
      exact ⟨by rw [H.out]; rfl, rfl⟩
theorem tree_mbp {t : List Int} (h1 : 1 ≤ t.length) (h8 : t.length ≤ 8) (h : ∀ i, i < t.length → mbp i (t.getD i 0) = true) : Tree t := by
  refine ⟨h1, h8, ?_, fun i hi hl => ?_⟩
  · have := h 0 (by omega)
    simpa [mbp] using this
  · have := h i hl
    simp only [mbp, if_neg (show i ≠ 0 by omega), decide_eq_true_eq] at this
    exact this
theorem mbp_tree {t : List Int} (h : Tree t) (i : Nat) (hi : i < t.length) : mbp i (t.getD i 0) = true := by
  unfold mbp
  by_cases e : i = 0
  · subst e; have := h.root; simpa using this
  · have := h.up i (by omega) hi
    simp only [if_neg e, decide_eq_true_eq]; exact this
/-- A tree's cells. -/
def tcArr (n : Nat) (f : Nat → Int) : Array Value := #[.int .i64 n, .int .i64 (f 0), .int .i64 (f 1), .int .i64 (f 2), .int .i64 (f 3), .int .i64 (f 4), .int .i64 (f 5), .int .i64 (f 6), .int .i64 (f 7)]
def updF (f : Nat → Int) (k : Nat) (x : Int) : Nat → Int := fun i => if i = k then x else f i
theorem tcArr_set (n : Nat) (f : Nat → Int) (k : Nat) (hk : k < 8) (x : Int) : (tcArr n f).setIfInBounds (1 + k) (.int .i64 x) = tcArr n (updF f k x) := by
  match k, hk with
  | 0, _ => rfl
  | 1, _ => rfl
  | 2, _ => rfl
  | 3, _ => rfl
  | 4, _ => rfl
  | 5, _ => rfl
  | 6, _ => rfl
  | 7, _ => rfl
theorem tcArr_get (n : Nat) (f : Nat → Int) (k : Nat) (hk : k < 8) : (tcArr n f)[1 + k]? = some (.int .i64 (f k)) := by
  match k, hk with
  | 0, _ => rfl
  | 1, _ => rfl
  | 2, _ => rfl
  | 3, _ => rfl
  | 4, _ => rfl
  | 5, _ => rfl
  | 6, _ => rfl
  | 7, _ => rfl
theorem info_tr : (Try.prog.info? 74).map (·.size) = some 9 := by kernel_rfl
theorem results_tr {fn : Func} {p q : Tmp} (h : fn.results = #[.cell p 74, .tmp q]) (tmps : Array Value) (w : World) (g n : Nat) (f : Nat → Int)
    (hp : tmps.getD p undef = .pointer (some ⟨g, 0, none⟩)) (hg : w.heap[g]? = some (.cells (tcArr n f) 74)) : (results fn tmps).run Try.prog w = .ok (.tuple #[.agg (tcArr n f), tmps.getD q undef]) w := by
  have hl := run_loadVar_row (P := Try.prog) w g 74 74 (tcArr n f) (0, 0) _ hg Try.underlying74 rfl info_tr
  have hp' : tmps[p]?.getD undef = .pointer (some ⟨g, 0, none⟩) := by simpa using hp
  unfold results
  simp [h, hp', asAddr, hl]
section
variable {ops : Array Oper} {rest : List Oper} {o : Oper} {a : Act} {w : World} {Q : Exit → Act → World → Prop}
theorem load_tr (hgd : o.guard = none) (x : Operand) (ho : o.op = .load 74 x) (g n : Nat) (f : Nat → Int) (hx : a.eval x = .pointer (some ⟨g, 0, none⟩))
    (hg : w.heap[g]? = some (.cells (tcArr n f) 74)) (h : wpList Try.prog ops Q rest (a.put o.dst (.agg (tcArr n f))) w) : wpList Try.prog ops Q (o :: rest) a w :=
  wpList_load_row hgd _ x ho g hx _ _ (0, 0) _ hg Try.underlying74 rfl info_tr h
theorem store_tr {c : Array Value} {g : Nat} (hgd : o.guard = none) (x y : Operand) (ho : o.op = .store 74 x y) (n : Nat) (f : Nat → Int)
    (hx : a.eval x = .pointer (some ⟨g, 0, none⟩)) (hy : a.eval y = .agg (tcArr n f)) (hg : w.heap[g]? = some (.cells c 74)) (hc : c.size = 9)
    (h : wpList Try.prog ops Q rest (a.put o.dst undef) (w.setRow g (tcArr n f))) : wpList Try.prog ops Q (o :: rest) a w :=
  wpList_store_row hgd _ x y ho g (tcArr n f) hx hy _ c hg info_tr (by rw [hc]; rfl) (by simp [tcArr, Value.oneCell']) h
theorem zero_tr : (Try.prog.info? 74).bind (·.zero) = some (.agg (tcArr 0 fun _ => 0)) := by kernel_rfl
theorem alloc_tr (hgd : o.guard = none) (ho : o.op = .alloc 74)
    (h : wpList Try.prog ops Q rest (a.put o.dst (.pointer (some ⟨w.heap.size, 0, none⟩))) (w.alloc (.cells (tcArr 0 fun _ => 0) 74))) : wpList Try.prog ops Q (o :: rest) a w :=
  wpList_alloc_z hgd _ ho _ zero_tr h
theorem build_tr (hgd : o.guard = none) (parts : Array (Nat × Operand)) (ho : o.op = .build 74 parts) (n : Nat)
    (hz : Try.prog.built 74 (parts.map fun (i, x) => (i, a.eval x)).toList = some (tcArr n fun _ => 0))
    (h : wpList Try.prog ops Q rest (a.put o.dst (.agg (tcArr n fun _ => 0))) w) : wpList Try.prog ops Q (o :: rest) a w :=
  wpList_build_z hgd _ parts ho _ hz h
theorem store_tr_new {o0 : World} {m g : Nat} {e : Nat → Int} (hgd : o.guard = none) (x y : Operand) (ho : o.op = .store 74 x y) (n : Nat) (f : Nat → Int)
    (hx : a.eval x = .pointer (some ⟨g, 0, none⟩)) (hy : a.eval y = .agg (tcArr n f)) (hn : g = o0.heap.size)
    (h : wpList Try.prog ops Q rest (a.put o.dst undef) (o0.alloc (.cells (tcArr n f) 74))) : wpList Try.prog ops Q (o :: rest) a (o0.alloc (.cells (tcArr m e) 74)) :=
  wpList_store_new hgd x y ho (tcArr n f) hx hy hn info_tr rfl (by simp [tcArr, Value.oneCell']) h
end
set_option maxHeartbeats 2000000 in
theorem sMake_any (t : List Int) (p : Option Addr) (n c : Nat) (w : World) (hn : t.length = n) (hr : RowsAt clInt w p t) (hm : n ≤ 1000000000) :
    Calls Try.prog 46 #[.slice p n c] w fun e w' => Below w.heap.size w w' ∧ ∃ (m : Nat) (f : Nat → Int), e = .returned (.tuple #[.agg (tcArr m f), .bool (isTr t)]) ∧ (isTr t = true → m = n ∧ ∀ i, i < n → f i = t.getD i 0) := by
  have HR : Hid (RowsAt clInt w p t) := hr
  clear hr
  by_cases h1 : n < 1
  · have HF : Hid (isTr t = false) := isTr_no fun h => by have := h.pos; omega
    go_enter Try.func46, Try.ntmps46
    go_wp2_with (first | (refine alloc_tr rfl rfl ?_) | (refine build_tr rfl _ rfl 0 (by kernel_rfl) ?_) | (refine store_tr_new rfl _ _ rfl 0 _ rfl rfl rfl ?_))
    exact bodyPost_ret (results_tr rfl _ _ _ 0 _ rfl (by exact heap_alloc_new _ _)) rfl ⟨below_alloc _ _, 0, fun _ => 0, by rw [HF.out]; rfl, fun e => by rw [HF.out] at e; cases e⟩
  · by_cases h2 : 8 < n
    · have HF : Hid (isTr t = false) := isTr_no fun h => by have := h.le; omega
      go_enter Try.func46, Try.ntmps46
      go_wp2_with (first | (refine alloc_tr rfl rfl ?_) | (refine build_tr rfl _ rfl 0 (by kernel_rfl) ?_) | (refine store_tr_new rfl _ _ rfl 0 _ rfl rfl rfl ?_))
      exact bodyPost_ret (results_tr rfl _ _ _ 0 _ rfl (by exact heap_alloc_new _ _)) rfl ⟨below_alloc _ _, 0, fun _ => 0, by rw [HF.out]; rfl, fun e => by rw [HF.out] at e; cases e⟩
    · go_enter Try.func46, Try.ntmps46
      go_wp2_with (first | (refine alloc_tr rfl rfl ?_) | (refine build_tr rfl _ rfl n (by kernel_rfl) ?_) | (refine store_tr_new rfl _ _ rfl n _ rfl rfl (by simp) ?_))
      obtain ⟨g, hg⟩ : ∃ g, g = w.heap.size + 1 := ⟨_, rfl⟩
      have HG : Hid (g = w.heap.size + 1) := hg
      obtain ⟨w1, hw1⟩ : ∃ w1, w1 = (w.alloc (.cells (tcArr 0 fun _ => 0) 74)).alloc (.cells (tcArr n fun _ => 0) 74) := ⟨_, rfl⟩
      have HB1 : Hid (Below w.heap.size w w1) := by unfold Hid; rw [hw1]; exact bnext (below_alloc _ _) (below_alloc _ _)
      have HR1 : Hid (w1.heap[w.heap.size]? = some (.cells (tcArr 0 fun _ => 0) 74)) := by unfold Hid; rw [hw1]; exact blk_old (heap_alloc_new _ _)
      have HT1 : Hid (w1.heap[g]? = some (.cells (tcArr n fun _ => 0) 74)) := by
        unfold Hid; rw [hw1, hg]
        have := heap_alloc_new (w.alloc (.cells (tcArr 0 fun _ => 0) 74)) (.cells (tcArr n fun _ => 0) 74)
        simpa using this
      try simp only [World.size_alloc]
      rw [← hw1, ← hg]
      clear hw1 hg
      go_loopw [5] (fun i wr => ∃ (k : Nat) (f : Nat → Int), k ≤ n ∧ i = .int .i64 k ∧ (∀ j, j < k → mbp j (t.getD j 0) = true ∧ f j = t.getD j 0) ∧ Below w.heap.size w wr ∧ wr.heap[w.heap.size]? = some (.cells (tcArr 0 fun _ => 0) 74) ∧ wr.heap[g]? = some (.cells (tcArr n f) 74)) (fun i _ => n - (intOf i).toNat)
      case atStart => exact ⟨0, fun _ => 0, by omega, rfl, fun j hj => by omega, HB1.out, HR1.out, HT1.out⟩
      case round =>
        clear HB1 HR1 HT1
        obtain ⟨k, f, hk, rfl, hf, hb, hr1, ht1⟩ := hrel
        have HF : Hid (∀ j, j < k → mbp j (t.getD j 0) = true ∧ f j = t.getD j 0) := hf
        have HB : Hid (Below w.heap.size w wr) := hb
        have HR1 : Hid (wr.heap[w.heap.size]? = some (.cells (tcArr 0 fun _ => 0) 74)) := hr1
        have HT1 : Hid (wr.heap[g]? = some (.cells (tcArr n f) 74)) := ht1
        clear hf hb hr1 ht1
        by_cases hlk : k < n
        · obtain ⟨b, off, rfl, _, d1⟩ := HR.out.int_at HB.out k (by omega)
          have hgd : t.getD k 0 = t[k]'(by omega) := by simp [List.getD, List.getElem?_eq_getElem (show k < t.length by omega)]
          rw [← hgd] at d1
          clear hgd
          obtain ⟨x, hx⟩ : ∃ x, t.getD k 0 = x := ⟨_, rfl⟩
          rw [hx] at d1
          have HX : Hid (t.getD k 0 = x) := hx
          clear hx
          obtain ⟨mb, hmb⟩ : ∃ mb, mbp k x = mb := ⟨_, rfl⟩
          have k0 : (0 : Int) ≤ (k : Int) := by omega
          have k1 : (k : Int) < (n : Int) := by omega
          have k8 : (k : Int) < 8 := by omega
          cases mb with
          | true =>
            have cg : wr.cell? ⟨g, 1 + k, none⟩ = some (.int .i64 (f k)) := by rw [cell_of_row _ _ _ _ _ _ HT1.out]; exact tcArr_get n f k (by omega)
            have fg : wr.frozen? ⟨g, 1 + k, none⟩ = false := frozen_of_row _ _ _ _ _ HT1.out
            have HZ : Hid (Below w.heap.size w (wr.setCell ⟨g, 1 + k, none⟩ (.int .i64 x)) ∧ (wr.setCell ⟨g, 1 + k, none⟩ (.int .i64 x)).heap[w.heap.size]? = some (.cells (tcArr 0 fun _ => 0) 74) ∧ (wr.setCell ⟨g, 1 + k, none⟩ (.int .i64 x)).heap[g]? = some (.cells (tcArr n (updF f k x)) 74)) := by
              refine ⟨HB.out.setCell (by show w.heap.size ≤ g; rw [HG.out]; omega) _, ?_, ?_⟩
              · rw [heap_setCell_other _ _ _ _ (by show w.heap.size ≠ g; rw [HG.out]; omega)]; exact HR1.out
              · rw [heap_setCell_same _ _ _ _ _ _ HT1.out, tcArr_set n f k (by omega) x]
            go_wp2_with (go_at_call 70; refine (mayBeParent_any k x _).mono ?_; rintro e wA ⟨rfl, hwA⟩; have hwA := hwA.symm; subst hwA; rw [hmb])
            go_roundw
            case rel =>
              refine ⟨k + 1, updF f k x, by omega, by go_num, fun j hj => ?_, HZ.out⟩
              by_cases e : j = k
              · subst e; rw [HX.out]; exact ⟨hmb, by simp [updF]⟩
              · have := HF.out j (by omega); exact ⟨this.1, by simp only [updF, if_neg e]; exact this.2⟩
            case measure => simp [intOf]; omega
          | false =>
            have HN : Hid (isTr t = false) := isTr_no fun h => by have := mbp_tree h k (by omega); rw [HX.out, hmb] at this; cases this
            go_wp2_with (first | (go_at_call 70; refine (mayBeParent_any k x _).mono ?_; rintro e wA ⟨rfl, hwA⟩; have hwA := hwA.symm; subst hwA; rw [hmb]) | (refine build_tr rfl _ rfl 0 (by kernel_rfl) ?_) | (refine store_tr rfl _ _ rfl 0 _ rfl rfl HR1.out rfl ?_))
            exact bodyPost_ret (results_tr rfl _ _ _ 0 _ rfl (setRow_blk HR1.out)) rfl ⟨below_setRow _ HB.out (Nat.le_refl _), 0, fun _ => 0, by rw [HN.out]; rfl, fun e => by rw [HN.out] at e; cases e⟩
        · obtain rfl : k = n := by omega
          have HY : Hid (isTr t = true) := isTr_yes (tree_mbp (by omega) (by omega) fun i hi => (HF.out i (by omega)).1)
          go_wp2_with (first | (refine load_tr rfl _ rfl _ k f rfl HT1.out ?_) | (refine store_tr rfl _ _ rfl k f rfl rfl HR1.out rfl ?_))
          exact bodyPost_ret (results_tr rfl _ _ _ k f rfl (setRow_blk HR1.out)) rfl ⟨below_setRow _ HB.out (Nat.le_refl _), k, f, by rw [HY.out]; rfl, fun _ => ⟨rfl, fun i hi => (HF.out i hi).2⟩⟩
/-- A store's cells, as New makes it. -/
def stArr (n : Nat) (f : Nat → Int) (wid : Int) : Array Value := #[.int .i64 n, .int .i64 (f 0), .int .i64 (f 1), .int .i64 (f 2), .int .i64 (f 3), .int .i64 (f 4), .int .i64 (f 5), .int .i64 (f 6), .int .i64 (f 7), .int .i64 wid,
  .slice none 0 0, .int .i64 0, .slice none 0 0, .int .i64 0, .slice none 0 0, .int .i64 0, .slice none 0 0, .int .i64 0, .slice none 0 0, .int .i64 0, .slice none 0 0, .int .i64 0, .slice none 0 0, .int .i64 0, .slice none 0 0, .int .i64 0,
  .slice none 0 0, .int .i64 0, .slice none 0 0, .int .i64 0, .slice none 0 0, .int .i64 0, .slice none 0 0, .int .i64 0, .slice none 0 0, .int .i64 0, .slice none 0 0, .int .i64 0, .slice none 0 0, .int .i64 0, .slice none 0 0, .int .i64 0]
theorem built_st (n : Nat) (f : Nat → Int) (wid : Int) : Try.prog.built 77 [(0, .agg (tcArr n f)), (1, .int .i64 wid)] = some (stArr n f wid) := by kernel_rfl
theorem known_none (n : Int) : known n [] (fun _ => false) = [] := by
  unfold known knownTo
  rw [List.filter_eq_nil_iff.2 fun k _ => by simp [has, evK]]
  rfl
theorem get_rep {k N : Nat} {d : Nd} (h : (List.replicate N Nd.zero)[k]? = some d) : d = Nd.zero := by
  rw [List.getElem?_replicate] at h
  split at h
  · exact (Option.some.inj h).symm
  · cases h
theorem LQ_rep (t : List Int) (N q : Nat) : LQ t (List.replicate N Nd.zero) q = [] := by
  unfold LQ
  split
  · cases h : (List.replicate N Nd.zero)[q]? with
    | none => rfl
    | some d => rw [get_rep h]; simp only [Option.map_some, Option.getD_some, lvg, Nd.zero]; split; exact known_none _; rfl
  · cases h : (List.replicate N Nd.zero)[q - 8]? with
    | none => rfl
    | some d => rw [get_rep h]; simp only [Option.map_some, Option.getD_some, std, Nd.zero]; split; exact known_none _; rfl
theorem MQ_rep (N q : Nat) : MQ (List.replicate N Nd.zero) q = 0 := by
  unfold MQ
  split
  · cases h : (List.replicate N Nd.zero)[q]? with
    | none => rfl
    | some d => rw [get_rep h]; rfl
  · cases h : (List.replicate N Nd.zero)[q - 8]? with
    | none => rfl
    | some d => rw [get_rep h]; rfl
theorem isSt_new (t : List Int) (wid : Int) (n : Nat) (f : Nat → Int) (hn : t.length = n) (h8 : n ≤ 8) (hf : ∀ i, i < n → f i = t.getD i 0) : IsSt (stArr n f wid) t wid (fun _ => ⟨none, 0, 0⟩) (List.replicate t.length Nd.zero) where
  size := rfl
  len := by rw [hn]; rfl
  up := fun k hk => by
    have e : t.getD k (-1) = f k := by rw [hf k (by omega)]; simp [List.getD, List.getElem?_eq_getElem hk]
    rw [e]
    have hk8 : k < 8 := by omega
    match k, hk8 with
    | 0, _ => rfl
    | 1, _ => rfl
    | 2, _ => rfl
    | 3, _ => rfl
    | 4, _ => rfl
    | 5, _ => rfl
    | 6, _ => rfl
    | 7, _ => rfl
  wid := rfl
  sl := fun q hq => by
    match q, hq with
    | 0, _ => rfl
    | 1, _ => rfl
    | 2, _ => rfl
    | 3, _ => rfl
    | 4, _ => rfl
    | 5, _ => rfl
    | 6, _ => rfl
    | 7, _ => rfl
    | 8, _ => rfl
    | 9, _ => rfl
    | 10, _ => rfl
    | 11, _ => rfl
    | 12, _ => rfl
    | 13, _ => rfl
    | 14, _ => rfl
    | 15, _ => rfl
    | q + 16, h => exact absurd h (by omega)
  mrk := fun q hq => by
    rw [MQ_rep]
    match q, hq with
    | 0, _ => rfl
    | 1, _ => rfl
    | 2, _ => rfl
    | 3, _ => rfl
    | 4, _ => rfl
    | 5, _ => rfl
    | 6, _ => rfl
    | 7, _ => rfl
    | 8, _ => rfl
    | 9, _ => rfl
    | 10, _ => rfl
    | 11, _ => rfl
    | 12, _ => rfl
    | 13, _ => rfl
    | 14, _ => rfl
    | 15, _ => rfl
    | q + 16, h => exact absurd h (by omega)
section
variable {ops : Array Oper} {rest : List Oper} {o : Oper} {a : Act} {w : World} {Q : Exit → Act → World → Prop}
theorem build_st (hgd : o.guard = none) (x y : Operand) (ho : o.op = .build 77 #[(0, x), (1, y)]) (n : Nat) (f : Nat → Int) (wid : Int) (hx : a.eval x = .agg (tcArr n f)) (hy : a.eval y = .int .i64 wid)
    (h : wpList Try.prog ops Q rest (a.put o.dst (.agg (stArr n f wid))) w) : wpList Try.prog ops Q (o :: rest) a w :=
  wpList_build_z hgd _ _ ho _ (by simp only [List.map_toArray, List.map_cons, List.map_nil, hx, hy]; exact built_st n f wid) h
end
theorem evOk_nil : EvOk [] := fun i e h => by simp at h
theorem SR_new (t : List Int) (wid : Int) (n : Nat) (f : Nat → Int) (hn : t.length = n) (hT : Tree t) (w0 : 1 ≤ wid) (w1 : wid ≤ 1000) (hf : ∀ i, i < n → f i = t.getD i 0) (w wr : World) (own : Ghost) (B0 : Nat) (hB : B0 ≤ w.heap.size) (hw : w.heap.size ≤ wr.heap.size) :
    ∃ own', SR (wr.alloc (.cells (stArr n f wid) 77)) own' B0 wr.heap.size t wid (List.replicate t.length Nd.zero) ∧ Same w own own' := by
  have rep : SRep (wr.alloc (.cells (stArr n f wid) 77)) (fun j => if j = wr.heap.size then .st 0 else own j) B0 wr.heap.size t wid (List.replicate t.length Nd.zero) (fun _ => ⟨none, 0, 0⟩) (stArr n f wid) := by
    refine ⟨hT, w0, w1, heap_alloc_new _ _, isSt_new t wid n f hn (by have := hT.le; omega) hf, if_pos rfl, by omega, fun q _ => ?_, fun q _ k hk => ?_, by simp, fun k d hd => ?_⟩
    · rw [LQ_rep]; exact Own.nil _ _ _
    · cases hk
    · rw [get_rep hd]; exact ⟨evOk_nil, evOk_nil, Good.nil, Good.nil, by decide, by decide, by decide, by decide⟩
  exact ⟨_, ⟨_, _, rep⟩, fun j hj _ => if_neg (by omega)⟩
set_option maxHeartbeats 2000000 in
theorem sNew_any (t : List Int) (p : Option Addr) (n c : Nat) (wid : Int) (w : World) (hn : t.length = n) (hr : RowsAt clInt w p t) (hm : n ≤ 1000000000) :
    Calls Try.prog 23 #[.slice p n c, .int .i64 wid] w fun e w' => Below w.heap.size w w' ∧
      ((newE t wid = 0 ∧ ∃ bs, e = .returned (.tuple #[.pointer (some ⟨bs, 0, none⟩), .int .i64 0]) ∧ ∀ (own : Ghost) (B0 : Nat), B0 ≤ w.heap.size → ∃ own', SR w' own' B0 bs t wid (List.replicate t.length Nd.zero) ∧ Same w own own') ∨
       (newE t wid ≠ 0 ∧ e = .returned (.tuple #[.pointer none, .int .i64 (newE t wid)]))) := by
  have HR : Hid (RowsAt clInt w p t) := hr
  clear hr
  obtain ⟨b, hb⟩ : ∃ b, isTr t = b := ⟨_, rfl⟩
  cases b with
  | false =>
    have HN : Hid (newE t wid = 1) := by unfold Hid newE; rw [if_neg (by rw [hb]; simp)]
    go_enter Try.func23, Try.ntmps23
    go_wp2_with (first | (go_at_call 46; refine (sMake_any t _ _ _ _ hn HR.out hm).mono ?_; rintro e w1 ⟨hb1, m, f, rfl, hmf⟩; rw [hb]; clear hmf) | (refine alloc_tr rfl rfl ?_) | (refine store_tr_new rfl _ _ rfl m f rfl rfl rfl ?_))
    go_ret2
    exact ⟨bnext hb1 (below_alloc _ _), .inr ⟨by rw [HN.out]; decide, by rw [HN.out]; rfl⟩⟩
  | true =>
    have HT : Hid (Tree t) := (isTr_iff t).1 hb
    by_cases h0 : 1 ≤ wid
    · by_cases h1 : wid ≤ 1000
      · have HN : Hid (newE t wid = 0) := by unfold Hid newE; rw [if_pos hb, if_pos (by simp [isWid, h0, h1])]
        go_enter Try.func23, Try.ntmps23
        go_wp2_with (first | (go_at_call 46; refine (sMake_any t _ _ _ _ hn HR.out hm).mono ?_; rintro e w1 ⟨hb1, m, f, rfl, hmf⟩; obtain ⟨rfl, hf⟩ := hmf hb; have HF : Hid (∀ i, i < t.length → f i = t.getD i 0) := (fun i hi => hf i (by omega)); rw [hb]; clear hmf hf) | (refine alloc_tr rfl rfl ?_) | (refine store_tr_new rfl _ _ rfl _ f rfl rfl rfl ?_) | (refine load_tr rfl _ rfl _ _ f rfl (by exact heap_alloc_new _ _) ?_) | (refine build_st rfl _ _ rfl _ f wid rfl rfl ?_))
        go_ret2
        refine ⟨bnext (bnext hb1 (below_alloc _ _)) (below_alloc _ _), .inl ⟨HN.out, w1.heap.size + 1, rfl, fun own B0 hB => ?_⟩⟩
        have z := SR_new t wid m f hn HT.out h0 h1 (fun i hi => HF.out i (by omega)) w (w1.alloc (.cells (tcArr m f) 74)) own B0 hB (by have := hb1.size; simp; omega)
        simpa using z
      · have HN : Hid (newE t wid = 8) := by unfold Hid newE; rw [if_pos hb, if_neg (by simp [isWid]; omega)]
        go_enter Try.func23, Try.ntmps23
        go_wp2_with (first | (go_at_call 46; refine (sMake_any t _ _ _ _ hn HR.out hm).mono ?_; rintro e w1 ⟨hb1, m, f, rfl, hmf⟩; rw [hb]; clear hmf) | (refine alloc_tr rfl rfl ?_) | (refine store_tr_new rfl _ _ rfl m f rfl rfl rfl ?_))
        go_ret2
        exact ⟨bnext hb1 (below_alloc _ _), .inr ⟨by rw [HN.out]; decide, by rw [HN.out]; rfl⟩⟩
    · have HN : Hid (newE t wid = 8) := by unfold Hid newE; rw [if_pos hb, if_neg (by simp [isWid]; omega)]
      go_enter Try.func23, Try.ntmps23
      go_wp2_with (first | (go_at_call 46; refine (sMake_any t _ _ _ _ hn HR.out hm).mono ?_; rintro e w1 ⟨hb1, m, f, rfl, hmf⟩; rw [hb]; clear hmf) | (refine alloc_tr rfl rfl ?_) | (refine store_tr_new rfl _ _ rfl m f rfl rfl rfl ?_))
      go_ret2
      exact ⟨bnext hb1 (below_alloc _ _), .inr ⟨by rw [HN.out]; decide, by rw [HN.out]; rfl⟩⟩
end Go.Proofs.Ytpglbakcjihohab

/-! The program keeps every contract that the walk of the law asks. -/
namespace Go.Proofs.Ytpglbakcjihohab
open Go.RowKit

theorem sr_pr : PR SR where
  chg := fun h f s hS => SR_chg h f s hS
  new := fun t p n c wid w hn hr hm _ => sNew_any t p n c wid w hn hr hm
  items := fun w own B0 bs t wid D h hd n _ => sItems_any w own B0 bs t wid D h hd n
  mark := fun w own B0 bs t wid D h _ n _ => sMark_any w own B0 bs t wid D h n
  ask := fun w own B0 bs t wid D h hd n low high _ _ _ => sAsk_any w own B0 bs t wid D h hd n low high
theorem sr_pl : PL SR where
  ingest := fun w own B0 bs t wid D h hd hB n at' key v _ _ hk h0 h1 => sIngest_any w own B0 bs t wid D h hd hB n at' key v hk h0 h1
  advance := fun w own B0 bs t wid D h hd hB n tm _ _ => sAdvance_any w own B0 bs t wid D h hd hB n tm
theorem sr_ps : PS SR where
  sync := fun w own B0 bs t wid D h hd hB n _ => sSync_any w own B0 bs t wid D h hd hB n
  crash := fun w own B0 bs t wid D h hd hB n _ => sCrash_any w own B0 bs t wid D h hd hB n
theorem sr_pd : PD SR where
  send := fun w own B0 bs t wid D h hd n low high _ _ _ => sSend_any w own B0 bs t wid D h hd n low high
theorem sr_pj : PJ SR where
  deliver := fun w own B0 bs t wid D h hd hB n fr l p m c _ _ hm hr hok hml hp => sDeliver_any w own B0 bs t wid D h hd hB n fr l p m c hm hr hok hml hp
end Go.Proofs.Ytpglbakcjihohab

/-! The small functions of the statements that build trees: a tree out of raw numbers, a leaf, the leaves, a copy, a key cut short. -/
namespace Go.Proofs.Ytpglbakcjihohab
open Go.RowKit
set_option maxRecDepth 100000

section
variable {ops : Array Oper} {rest : List Oper} {o : Oper} {a : Act} {w : World} {Q : Exit → Act → World → Prop}
theorem build1_int (hgd : o.guard = none) (x : Operand) (ho : o.op = .buildSlice 22 1 #[(0, x)]) (s : Int) (hx : a.eval x = .int .i64 s)
    (h : RowsAt clInt (w.alloc (.cells (flat clInt [s]).toArray 3)) (some ⟨w.heap.size, 0, none⟩) [s] → wpList Try.prog ops Q rest (a.put o.dst (.slice (some ⟨w.heap.size, 0, none⟩) 1 1)) (w.alloc (.cells (flat clInt [s]).toArray 3))) : wpList Try.prog ops Q (o :: rest) a w :=
  wpList_buildCl hgd _ _ 8 slInt 1 _ ho [.int .i64 s] [s] (by simp [hx]) (by rfl) rfl (by decide) (by decide) h
theorem append_int (hgd : o.guard = none) (s x : Operand) (ho : o.op = .call { callee := .builtin .append, args := #[s, x], argTypes := #[22, 22] }) (base : Nat) (v : Value) (l : List Int) (hs : a.eval s = v) (hown : Own clInt w base 3 v l)
    (p : Option Addr) (m c : Nat) (ms : List Int) (hx : a.eval x = .slice p m c) (hm : ms.length = m) (hg : RowsAt clInt w p ms) (hpos : 0 < m) (h63 : l.length + m ≤ 1000000000) (hbase : base ≤ w.heap.size)
    (h : ∀ v' w', Own clInt w' base 3 v' (l ++ ms) → w.grownBy w' v.ownBlock → wpList Try.prog ops Q rest (a.put o.dst v') w') : wpList Try.prog ops Q (o :: rest) a w :=
  wpList_append_cl hgd s x _ _ 8 ho slInt base v l hs hown p m c ms hx hm hg hpos (by simp only [maxLen]; omega) (by omega) hbase fun v' w' h1 _ h2 _ _ => h v' w' h1 h2
end
/-- The tree out of raw numbers. -/
def trTo (raw : List Int) (k : Nat) : List Int := -1 :: (List.range k).map fun i => pk (raw.getD i 0) (i + 1)
def trK (raw : List Int) : List Int := trTo raw (min raw.length 7)
theorem trTo_len (raw : List Int) (k : Nat) : (trTo raw k).length = k + 1 := by simp [trTo]
theorem trTo_succ (raw : List Int) (k : Nat) : trTo raw (k + 1) = trTo raw k ++ [pk (raw.getD k 0) (k + 1)] := by simp [trTo, List.range_succ]
theorem trTo_get (raw : List Int) (k i : Nat) (hi : i < k) : (trTo raw k).getD (i + 1) 0 = pk (raw.getD i 0) (i + 1) := by simp [trTo, List.getD, hi]
theorem trK_tree (raw : List Int) : Tree (trK raw) := by
  refine ⟨by rw [trK, trTo_len]; omega, by rw [trK, trTo_len]; omega, by simp [trK, trTo, List.getD], fun i hi hl => ?_⟩
  rw [trK, trTo_len] at hl
  obtain ⟨j, rfl⟩ : ∃ j, i = j + 1 := ⟨i - 1, by omega⟩
  rw [trK, trTo_get raw _ j (by omega)]
  have := pk_bd (raw.getD j 0) (j + 1) (by omega)
  omega
set_option maxHeartbeats 1000000 in
theorem ktree_any (raw : List Int) (hf : ∀ x ∈ raw, fitsI x) (p : Option Addr) (n c : Nat) (w : World) (hn : raw.length = n) (hr : RowsAt clInt w p raw) (hm : n ≤ 1000000000) :
    Calls Try.prog 25 #[.slice p n c] w fun e w' => ∃ v, e = .returned v ∧ Own clInt w' w.heap.size 3 v (trK raw) ∧ Below w.heap.size w w' := by
  have HR : Hid (RowsAt clInt w p raw) := hr
  have HF : Hid (∀ x ∈ raw, fitsI x) := hf
  clear hr hf
  go_enter Try.func25, Try.ntmps25
  go_wp2_with (refine build1_int rfl _ rfl (-1) rfl ?_; intro R0)
  have o0 : Own clInt (w.alloc (.cells (flat clInt [(-1 : Int)]).toArray 3)) w.heap.size 3 (.slice (some ⟨w.heap.size, 0, none⟩) 1 1) (trTo raw 0) := by
    refine ⟨by simp [flat, trTo], .inr ⟨w.heap.size, 1, (flat clInt [(-1 : Int)]).toArray, by simp [trTo], Nat.le_refl _, heap_alloc_new _ _, by simp [trTo], by simp [maxLen], by simp [flat], by simp [flat, trTo]⟩⟩
  go_loopw [3, 4] (fun v i wr => ∃ k : Nat, k ≤ n ∧ k ≤ 7 ∧ i = .int .i64 k ∧ Own clInt wr w.heap.size 3 v (trTo raw k) ∧ Below w.heap.size w wr) (fun _ i _ => 7 - (intOf i).toNat)
  case atStart => exact ⟨0, by omega, by omega, rfl, o0, below_alloc _ _⟩
  case round =>
    clear o0 R0
    obtain ⟨k, hk, hk7, rfl, ho, hb⟩ := hrel
    have HO : Hid (Own clInt wr w.heap.size 3 u3 (trTo raw k)) := ho
    have HB : Hid (Below w.heap.size w wr) := hb
    have hsz := hb.size
    have htl := trTo_len raw k
    by_cases h1 : k < n
    · by_cases h2 : k < 7
      · obtain ⟨b0, off, rfl, hlt, hc⟩ := HR.out.int_at hb k (by omega)
        have hx : fitsI (raw[k]'(by omega)) := HF.out _ (List.getElem_mem _)
        have eg : raw.getD k 0 = raw[k]'(by omega) := by simp [List.getD, List.getElem?_eq_getElem (show k < raw.length by omega)]
        obtain ⟨x, hxe⟩ : ∃ x, x = raw.getD k 0 := ⟨_, rfl⟩
        rw [← eg, ← hxe] at hc hx
        have HX : Hid (trTo raw (k + 1) = trTo raw k ++ [pk x (k + 1)]) := by unfold Hid; rw [trTo_succ, hxe]
        have e1 : IntKind.i64.wrap ((k : Int) + 1) = (k : Int) + 1 := IntWalk.i64_in _ ⟨by omega, by omega⟩
        clear ho hb eg hxe
        go_wp2_with (first | (go_at_call 10; refine (pick_any x ((k : Int) + 1) _ hx.1 hx.2 (by omega) (by omega)).mono ?_; rintro e wA ⟨rfl, hwA⟩; have hwA := hwA.symm; subst hwA) | (refine build1_int rfl _ rfl (pk x (k + 1)) rfl ?_; intro R1) | (at_builtin; refine append_int rfl _ _ rfl w.heap.size _ _ rfl (by exact HO.out.below (below_alloc _ _)) _ 1 _ _ rfl rfl R1 (by omega) (by omega) (by simp; omega) ?_; intro v1 w2 o1 g1))
        go_roundw
        case rel => exact ⟨k + 1, by omega, by omega, by go_num, by rw [HX.out]; exact o1, (bnext HB.out (below_alloc _ _)).trans (grown_below g1 _ (by simp; omega) (fun j hj => (HO.out.lt j hj).1))⟩
        case measure => simp [intOf]; omega
      · obtain rfl : k = 7 := by omega
        have HE : Hid (trK raw = trTo raw 7) := by unfold Hid trK; rw [show min raw.length 7 = 7 by omega]
        clear ho hb
        go_wp2
        go_ret
        exact ⟨u3, rfl, by rw [HE.out]; exact HO.out, HB.out⟩
    · obtain rfl : k = n := by omega
      have HE : Hid (trK raw = trTo raw k) := by unfold Hid trK; rw [show min raw.length 7 = k by omega]
      clear ho hb
      go_wp2
      go_ret
      exact ⟨u3, rfl, by rw [HE.out]; exact HO.out, HB.out⟩
set_option maxHeartbeats 1000000 in
theorem kleaf_any (t : List Int) (p : Option Addr) (n c : Nat) (x : Int) (w : World) (hn : t.length = n) (hr : RowsAt clInt w p t) (hm : n ≤ 1000000000) :
    Calls Try.prog 44 #[.slice p n c, .int .i64 x] w fun e w' => e = .returned (.bool (isLf t x)) ∧ w' = w := by
  have HR : Hid (RowsAt clInt w p t) := hr
  clear hr
  go_enter Try.func44, Try.ntmps44
  go_wp2
  go_loop [5] (fun i => ∃ k : Nat, k ≤ n ∧ i = .int .i64 k ∧ x ∉ t.take k) (fun i => n - (intOf i).toNat)
  case atStart => exact ⟨0, by omega, rfl, by simp⟩
  case round =>
    obtain ⟨k, hk, rfl, hnot⟩ := hrel
    have HN : Hid (x ∉ t.take k) := hnot
    clear hnot
    by_cases hlt : k < n
    · obtain ⟨b0, off, rfl, hb, hc⟩ := HR.out.int_at (Below.refl _ _) k (by omega)
      obtain ⟨y, hy⟩ : ∃ y, y = t[k]'(by omega) := ⟨_, rfl⟩
      rw [← hy] at hc
      by_cases e : y = x
      · have H : Hid (isLf t x = false) := by unfold Hid isLf; simp only [decide_eq_false_iff_not, Classical.not_not]; rw [← e, hy]; exact List.getElem_mem _
        clear hy
        subst e
        go_wp2
        go_ret
        exact ⟨by rw [H.out]; rfl, rfl⟩
      · have H : Hid (x ∉ t.take (k + 1)) := by unfold Hid; rw [mem_take_succ t k (by omega)]; exact ⟨HN.out, by rw [← hy]; exact e⟩
        have hbb : (y == x) = false := by simpa using e
        clear hy
        go_wp2
        go_round
        case rel => exact ⟨k + 1, by omega, by go_num, H.out⟩
        case measure => simp [intOf]; omega
    · obtain rfl : k = n := by omega
      have H : Hid (isLf t x = true) := by unfold Hid isLf; have := HN.out; rw [List.take_of_length_le (by omega)] at this; simp [this]
      go_wp2
      go_ret
      exact ⟨by rw [H.out]; rfl, rfl⟩
/-- The leaves' numbers. -/
def lvsTo (t : List Int) (k : Nat) : List Int := ((List.range k).filter fun i : Nat => isLf t i).map fun i : Nat => (i : Int)
theorem lvsTo_yes (t : List Int) (k : Nat) (h : isLf t k = true) : lvsTo t (k + 1) = lvsTo t k ++ [(k : Int)] := by simp [lvsTo, List.range_succ, List.filter_append, h]
theorem lvsTo_no (t : List Int) (k : Nat) (h : isLf t k = false) : lvsTo t (k + 1) = lvsTo t k := by simp [lvsTo, List.range_succ, List.filter_append, h]
theorem lvsTo_len (t : List Int) (k : Nat) : (lvsTo t k).length ≤ k := by
  have := List.length_filter_le (fun i : Nat => isLf t i) (List.range k)
  simpa [lvsTo] using this
set_option maxHeartbeats 1000000 in
theorem kleaves_any (t : List Int) (p : Option Addr) (n c : Nat) (w : World) (hn : t.length = n) (hr : RowsAt clInt w p t) (hm : n ≤ 1000000) :
    Calls Try.prog 33 #[.slice p n c] w fun e w' => ∃ v, e = .returned v ∧ Own clInt w' w.heap.size 3 v (lvsTo t n) ∧ Below w.heap.size w w' := by
  have HR : Hid (RowsAt clInt w p t) := hr
  clear hr
  go_enter Try.func33, Try.ntmps33
  go_wp2
  go_loopw [3, 4] (fun v i wr => ∃ k : Nat, k ≤ n ∧ i = .int .i64 k ∧ Own clInt wr w.heap.size 3 v (lvsTo t k) ∧ Below w.heap.size w wr) (fun _ i _ => n - (intOf i).toNat)
  case atStart => exact ⟨0, by omega, rfl, Own.nil _ _ _, Below.refl _ _⟩
  case round =>
    obtain ⟨k, hk, rfl, ho, hb⟩ := hrel
    have HO : Hid (Own clInt wr w.heap.size 3 u3 (lvsTo t k)) := ho
    have HB : Hid (Below w.heap.size w wr) := hb
    have hsz := hb.size
    have htl := lvsTo_len t k
    clear ho hb
    by_cases hlt : k < n
    · obtain ⟨f, hf⟩ : ∃ f, isLf t k = f := ⟨_, rfl⟩
      have HF : Hid (isLf t k = f) := hf
      cases f with
      | true =>
        have HX : Hid (lvsTo t (k + 1) = lvsTo t k ++ [(k : Int)]) := lvsTo_yes t k hf
        clear hf
        go_wp2_with (first | (go_at_call 44; refine (kleaf_any t p n c k _ hn (HR.out.below HB.out) (by omega)).mono ?_; rintro e wA ⟨rfl, hwA⟩; have hwA := hwA.symm; subst hwA; rw [HF.out]) | (refine build1_int rfl _ rfl (k : Int) rfl ?_; intro R1) | (at_builtin; refine append_int rfl _ _ rfl w.heap.size _ _ rfl (by exact HO.out.below (below_alloc _ _)) _ 1 _ _ rfl rfl R1 (by omega) (by omega) (by simp; omega) ?_; intro v1 w2 o1 g1))
        go_roundw
        case rel => exact ⟨k + 1, by omega, by go_num, by rw [HX.out]; exact o1, (bnext HB.out (below_alloc _ _)).trans (grown_below g1 _ (by simp; omega) (fun j hj => (HO.out.lt j hj).1))⟩
        case measure => simp [intOf]; omega
      | false =>
        have HX : Hid (lvsTo t (k + 1) = lvsTo t k) := lvsTo_no t k hf
        clear hf
        go_wp2_with (go_at_call 44; refine (kleaf_any t p n c k _ hn (HR.out.below HB.out) (by omega)).mono ?_; rintro e wA ⟨rfl, hwA⟩; have hwA := hwA.symm; subst hwA; rw [HF.out])
        go_roundw
        case rel => exact ⟨k + 1, by omega, by go_num, by rw [HX.out]; exact HO.out, HB.out⟩
        case measure => simp [intOf]; omega
    · obtain rfl : k = n := by omega
      go_wp2
      go_ret
      exact ⟨u3, rfl, HO.out, HB.out⟩
set_option maxHeartbeats 1000000 in
theorem kcopied_any (l : List Int) (p : Option Addr) (n c : Nat) (w : World) (hn : l.length = n) (hp : RowsAt clInt w p l) (hm : n ≤ 1000000000) :
    Calls Try.prog 24 #[.slice p n c] w fun e w' => ∃ q cc, e = .returned (.slice q n cc) ∧ RowsAt clInt w' q l ∧ Own clInt w' w.heap.size 3 (.slice q n cc) l ∧ Below w.heap.size w w' := by
  go_enter Try.func24, Try.ntmps24
  go_wp2_with (first | (refine wpList_make_cl rfl _ _ _ _ 8 slInt rfl 0 zeros_int w.heap.size n _ rfl rfl (by omega) (by simp only [maxLen]; omega) (by omega) (Nat.le_refl _) ?_; intro w1 ho hg; have hb1 := grown_below hg w.heap.size (Nat.le_refl _) (fun _ h => by cases h); obtain ⟨w2, hr, ho2, hg2⟩ := run_copy_cl slInt 3 w1 _ _ _ _ _ ho (by simp) p n c l hn (hp.below hb1) (by omega)) | (at_builtin; refine wpList_copy rfl _ _ _ _ rfl _ _ rfl rfl (by exact hr) ?_))
  have hd : List.drop n (List.replicate n (0 : Int)) = [] := by simp
  rw [hd, List.append_nil] at ho2
  have hb2 := hb1.trans (grown_below hg2 _ hb1.size (fun k h => by cases h; omega))
  go_ret
  exact ⟨_, _, rfl, (Own.sl (s := ⟨_, n, _⟩) ho2).2, ho2, hb2⟩
end Go.Proofs.Ytpglbakcjihohab

/-! What the stores hold, whatever came about: every item outside its leaf is the sketch of the first so many stored events of its leaf and window (no program is named here). -/
namespace Go.Proofs.Ytpglbakcjihohab
open Go.RowKit
set_option maxRecDepth 100000

theorem evK_app (l r : List Ev3) (k : Int) : evK (l ++ r) k = evK l k ++ evK r k := by unfold evK; exact List.filter_append ..
/-- An item that lies outside its leaf. -/
structure Xct (t : List Int) (D : List Nd) (x : It) : Prop where
  nd : isNd t x.leaf = true
  lf : isLf t x.leaf = true
  w0 : 0 ≤ x.win
  w1 : x.win < 20
  v0 : 0 ≤ x.ver
  of : ∃ d, D[x.leaf.toNat]? = some d ∧ x.ver ≤ ((evK d.kev x.win).length : Int) ∧ x.sk = skOf ((evK d.kev x.win).take x.ver.toNat) ∧ (x.fin = true → d.kcl x.win.toNat = true ∧ x.ver = ((evK d.kev x.win).length : Int))
/-- Nothing that was stored is lost. -/
def Grow (D D' : List Nd) : Prop := ∀ (k : Nat) (d : Nd), D[k]? = some d → ∃ d', D'[k]? = some d' ∧ (∃ r, d'.kev = d.kev ++ r) ∧ ∀ w : Nat, w < 20 → d.kcl w = true → d'.kcl w = true ∧ evK d'.kev w = evK d.kev w
theorem Grow.refl (D : List Nd) : Grow D D := fun k d h => ⟨d, h, ⟨[], by simp⟩, fun _ _ h => ⟨h, rfl⟩⟩
theorem Xct.grow {t : List Int} {D D' : List Nd} {x : It} (h : Xct t D x) (g : Grow D D') : Xct t D' x := by
  refine ⟨h.nd, h.lf, h.w0, h.w1, h.v0, ?_⟩
  obtain ⟨d, h1, h2, h3, h4⟩ := h.of
  obtain ⟨d', g1, ⟨r, g2⟩, g3⟩ := g _ d h1
  have hv := h.v0
  refine ⟨d', g1, ?_, ?_, fun hf => ?_⟩
  · rw [g2, evK_app, List.length_append]; omega
  · rw [g2, evK_app, List.take_append_of_le_length (by omega)]; exact h3
  · obtain ⟨e1, e2⟩ := h4 hf
    have hw : ((x.win.toNat : Nat) : Int) = x.win := by have := h.w0; omega
    obtain ⟨e3, e4⟩ := g3 x.win.toNat (by have := h.w1; have := h.w0; omega) e1
    rw [hw] at e4
    exact ⟨e3, by rw [e4]; exact e2⟩
/-- What holds of the nodes and of the packets that were sent. -/
structure Inv (t : List Int) (D : List Nd) (PK : List (Int × List It)) : Prop where
  ld : D.length = t.length
  pre : ∀ (k : Nat) (d : Nd), D[k]? = some d → ∃ r, d.lev = d.kev ++ r
  cl : ∀ (k : Nat) (d : Nd), D[k]? = some d → ∀ w : Nat, w < 20 → d.kcl w = true → d.lcl w = true ∧ evK d.lev w = evK d.kev w
  inn : ∀ (k : Nat) (d : Nd), D[k]? = some d → isLf t k = false → d.lev = [] ∧ d.kev = []
  it : ∀ (k : Nat) (d : Nd), D[k]? = some d → ∀ x, x ∈ d.items ∨ x ∈ d.saved → Xct t D x ∧ under t x.leaf k = true
  gd : ∀ (k : Nat) (d : Nd), D[k]? = some d → Good d.items ∧ Good d.saved
  pk : ∀ p ∈ PK, 1 ≤ p.1 ∧ p.1 < t.length ∧ Good p.2 ∧ ∀ x ∈ p.2, Xct t D x ∧ under t x.leaf p.1 = true
theorem set_some {D : List Nd} {k j : Nat} {d d' : Nd} (h : (D.set k d')[j]? = some d) : (j = k ∧ d = d') ∨ (j ≠ k ∧ D[j]? = some d) := by
  by_cases e : k = j
  · subst e
    rw [List.getElem?_set] at h
    simp only [if_true] at h
    split at h
    · cases h; exact .inl ⟨rfl, rfl⟩
    · cases h
  · rw [List.getElem?_set_ne e] at h; exact .inr ⟨fun e' => e e'.symm, h⟩
theorem Grow.set {D : List Nd} {k : Nat} {d d' : Nd} (hd : D[k]? = some d) (h1 : ∃ r, d'.kev = d.kev ++ r) (h2 : ∀ w : Nat, w < 20 → d.kcl w = true → d'.kcl w = true ∧ evK d'.kev w = evK d.kev w) : Grow D (D.set k d') := fun j e he => by
  by_cases ej : k = j
  · subst ej
    rw [hd] at he; cases he
    exact ⟨d', List.getElem?_set_self (List.getElem?_eq_some_iff.1 hd).1, h1, h2⟩
  · exact ⟨e, by rw [List.getElem?_set_ne ej]; exact he, ⟨[], by simp⟩, fun _ _ h => ⟨h, rfl⟩⟩
/-- One node changed: what must be shown of it. -/
theorem Inv.set {t : List Int} {D : List Nd} {PK : List (Int × List It)} (h : Inv t D PK) {k : Nat} {d d' : Nd} (hd : D[k]? = some d) (hp : ∃ r, d'.lev = d'.kev ++ r) (hc : ∀ w : Nat, w < 20 → d'.kcl w = true → d'.lcl w = true ∧ evK d'.lev w = evK d'.kev w) (hi : isLf t k = false → d'.lev = [] ∧ d'.kev = [])
    (hx : ∀ x, x ∈ d'.items ∨ x ∈ d'.saved → Xct t D x ∧ under t x.leaf k = true) (hg : Good d'.items ∧ Good d'.saved) (h1 : ∃ r, d'.kev = d.kev ++ r) (h2 : ∀ w : Nat, w < 20 → d.kcl w = true → d'.kcl w = true ∧ evK d'.kev w = evK d.kev w) : Inv t (D.set k d') PK := by
  have gr := Grow.set hd h1 h2
  refine ⟨by simpa using h.ld, fun j e he => ?_, fun j e he => ?_, fun j e he => ?_, fun j e he x hxx => ?_, fun j e he => ?_, fun p hp => ?_⟩
  · rcases set_some he with ⟨rfl, rfl⟩ | ⟨_, he⟩
    · exact hp
    · exact h.pre j e he
  · rcases set_some he with ⟨rfl, rfl⟩ | ⟨_, he⟩
    · exact hc
    · exact h.cl j e he
  · rcases set_some he with ⟨rfl, rfl⟩ | ⟨_, he⟩
    · exact hi
    · exact h.inn j e he
  · rcases set_some he with ⟨rfl, rfl⟩ | ⟨_, he⟩
    · obtain ⟨a, b⟩ := hx x hxx; exact ⟨a.grow gr, b⟩
    · obtain ⟨a, b⟩ := h.it j e he x hxx; exact ⟨a.grow gr, b⟩
  · rcases set_some he with ⟨rfl, rfl⟩ | ⟨_, he⟩
    · exact hg
    · exact h.gd j e he
  · obtain ⟨a, b, c, d⟩ := h.pk p hp
    exact ⟨a, b, c, fun x hx => ⟨(d x hx).1.grow gr, (d x hx).2⟩⟩
theorem wrg_lf {t : List Int} {n : Int} (h : wrg t n = 0) : isNd t n = true ∧ isLf t n = true := by
  unfold wrg at h
  split at h
  · rename_i h1
    split at h
    · rename_i h2; exact ⟨h1, h2⟩
    · omega
  · omega
theorem nd_nat {t : List Int} {n : Int} (h : isNd t n = true) : ((n.toNat : Nat) : Int) = n ∧ n.toNat < t.length := by
  simp only [isNd, decide_eq_true_eq] at h; omega
theorem inv_ingest {t : List Int} {D : List Nd} {PK : List (Int × List It)} {wid : Int} (h : Inv t D PK) (hw : 1 ≤ wid) (n at' : Int) (key : ByteArray) (v : Int) : Inv t (ingD t wid D n at' key v) PK := by
  unfold ingD
  split
  · rename_i h0
    cases hx : D[n.toNat]? with
    | none => exact h
    | some d =>
      unfold ingE at h0
      split at h0
      · rename_i h1
        obtain ⟨h2, h3⟩ := wrg_lf h1
        obtain ⟨e1, e2⟩ := nd_nat h2
        split at h0
        · omega
        · rename_i h4
          split at h0
          · omega
          · split at h0
            · omega
            · rename_i h6
              have hq0 : 0 ≤ at' / wid := Int.ediv_nonneg (by omega) (by omega)
              have hcl : d.lcl (at' / wid).toNat = false := by simpa [hx] using h6
              obtain ⟨r, hr⟩ := h.pre _ d hx
              refine h.set hx ⟨r ++ [⟨at' / wid, key, v⟩], by simp [hr]⟩ (fun w hw20 hk => ?_) (fun hf => by rw [e1, h3] at hf; cases hf) (fun x hx' => h.it _ d hx x hx') (h.gd _ d hx) ⟨[], by simp⟩ (fun _ _ h => ⟨h, rfl⟩)
              obtain ⟨c1, c2⟩ := h.cl _ d hx w hw20 hk
              refine ⟨c1, ?_⟩
              have hne : at' / wid ≠ (w : Int) := fun e => by rw [e] at hcl; simp at hcl; rw [c1] at hcl; cases hcl
              show evK (d.lev ++ [⟨at' / wid, key, v⟩]) w = evK d.kev w
              rw [evK_add]
              simp only [if_neg hne, List.append_nil]
              exact c2
      · rename_i h1; exact absurd h0 h1
  · exact h
theorem inv_advance {t : List Int} {D : List Nd} {PK : List (Int × List It)} {wid : Int} (h : Inv t D PK) (n tm : Int) : Inv t (advD t wid D n tm) PK := by
  unfold advD
  split
  · cases hx : D[n.toNat]? with
    | none => exact h
    | some d =>
      refine h.set hx (h.pre _ d hx) (fun w hw hk => ?_) (h.inn _ d hx) (fun x hx' => h.it _ d hx x hx') (h.gd _ d hx) ⟨[], by simp⟩ (fun _ _ h => ⟨h, rfl⟩)
      obtain ⟨c1, c2⟩ := h.cl _ d hx w hw hk
      refine ⟨?_, c2⟩
      show clTo d.lcl wid tm 20 w = true
      unfold clTo
      split
      · rfl
      · exact c1
  · exact h
theorem inv_sync {t : List Int} {D : List Nd} {PK : List (Int × List It)} (h : Inv t D PK) (n : Int) : Inv t (synD t D n) PK := by
  unfold synD
  split
  · cases hx : D[n.toNat]? with
    | none => exact h
    | some d =>
      exact h.set hx ⟨[], by simp⟩ (fun w hw hk => ⟨hk, rfl⟩) (fun hf => ⟨(h.inn _ d hx hf).1, (h.inn _ d hx hf).1⟩) (fun x hx' => h.it _ d hx x (by rcases hx' with a | a <;> exact .inl a)) ⟨(h.gd _ d hx).1, (h.gd _ d hx).1⟩ (h.pre _ d hx) (fun w hw hk => h.cl _ d hx w hw hk)
  · exact h
theorem inv_crash {t : List Int} {D : List Nd} {PK : List (Int × List It)} (h : Inv t D PK) (n : Int) : Inv t (craD t D n) PK := by
  unfold craD
  split
  · cases hx : D[n.toNat]? with
    | none => exact h
    | some d =>
      exact h.set hx ⟨[], by simp⟩ (fun w hw hk => ⟨hk, rfl⟩) (fun hf => ⟨(h.inn _ d hx hf).2, (h.inn _ d hx hf).2⟩) (fun x hx' => h.it _ d hx x (by rcases hx' with a | a <;> exact .inr a)) ⟨(h.gd _ d hx).2, (h.gd _ d hx).2⟩ ⟨[], by simp⟩ (fun _ _ h => ⟨h, rfl⟩)
  · exact h
/-- What is stored of a node: each item of it is as it must be. -/
theorem std_xct {t : List Int} {D : List Nd} {PK : List (Int × List It)} (h : Inv t D PK) {k : Nat} {d : Nd} (hd : D[k]? = some d) (x : It) (hx : x ∈ std t d k) : Xct t D x ∧ under t x.leaf k = true := by
  have hkl : k < t.length := by have := h.ld; have := (List.getElem?_eq_some_iff.1 hd).1; omega
  unfold std at hx
  split at hx
  · rename_i hlf
    unfold known knownTo at hx
    obtain ⟨w, hw, rfl⟩ := List.mem_map.1 hx
    have hw20 : w < 20 := by have := (List.mem_filter.1 hw).1; simpa using this
    refine ⟨⟨by simp [isNd, itOf]; exact hkl, hlf, by simp [itOf], by simp [itOf]; omega, by simp [itOf], d, by simpa [itOf] using hd, by simp [itOf], ?_, fun hf => ⟨by simpa [itOf] using hf, by simp [itOf]⟩⟩, ?_⟩
    · simp [itOf]
    · exact under_self t k (by omega)
  · exact h.it k d hd x (.inr hx)
theorem std_good' {t : List Int} {D : List Nd} {PK : List (Int × List It)} (h : Inv t D PK) {k : Nat} {d : Nd} (hd : D[k]? = some d) (he : EvOk d.kev) (hk : k < 8) (hl : d.kev.length ≤ 1000000000) : Good (std t d k) := by
  unfold std
  split
  · exact known_good k d.kev d.kcl (by omega) (by omega) he hl
  · exact (h.gd k d hd).2
theorem Good.filter {l : List It} (h : Good l) (f : It → Bool) : Good (l.filter f) :=
  ⟨h.srt.filter f, fun x hx => h.inb x (List.mem_filter.1 hx).1, allOkI_of fun x hx => h.ok.mem (List.mem_filter.1 hx).1⟩
theorem inv_send {t : List Int} {D : List Nd} {PK : List (Int × List It)} (h : Inv t D PK) (h8 : t.length ≤ 8) {n : Int} (hn : isNd t n = true) (h0 : n ≠ 0) (low high : Int) (hev : ∀ (k : Nat) (d : Nd), D[k]? = some d → EvOk d.kev ∧ d.kev.length ≤ 1000000000) :
    Inv t D (PK ++ [(n, sndL t D n low high)]) := by
  obtain ⟨e1, e2⟩ := nd_nat hn
  refine ⟨h.ld, h.pre, h.cl, h.inn, h.it, h.gd, fun p hp => ?_⟩
  rcases List.mem_append.1 hp with hp | hp
  · exact h.pk p hp
  · rw [List.mem_singleton.1 hp]
    have hnn : 0 ≤ n := by simp only [isNd, decide_eq_true_eq] at hn; omega
    refine ⟨by show 1 ≤ n; omega, by show n < t.length; omega, ?_, fun x hx => ?_⟩
    · unfold sndL
      split
      · cases hx : D[n.toNat]? with
        | none => exact Good.nil
        | some d => exact (std_good' h hx (hev _ d hx).1 (by omega) (hev _ d hx).2).filter _
      · exact Good.nil
    · have hx' : x ∈ sndL t D n low high := hx
      unfold sndL at hx'
      split at hx'
      · cases hd : D[n.toNat]? with
        | none => rw [hd] at hx'; simp at hx'
        | some d =>
          rw [hd] at hx'
          have := std_xct h hd x (List.mem_filter.1 hx').1
          rw [e1] at this
          exact this
      · simp at hx'
/-- Under a node is under its parent. -/
theorem under_up {t : List Int} (hT : Tree t) {fr n : Int} (hfr : isNd t fr = true) (hf0 : fr ≠ 0) (hp : t.getD fr.toNat 0 = n) (f : Nat) : ∀ (x : Int), x < t.length → x.toNat + 1 ≤ f → under t x fr = true → under t x n = true := by
  obtain ⟨e1, e2⟩ := nd_nat hfr
  have hup := hT.up fr.toNat (by omega) e2
  rw [hp] at hup
  induction f with
  | zero => intro x _ hf _; omega
  | succ f ih =>
    intro x hx hf hu
    by_cases hneg : x < 0
    · rw [under_neg t x fr hneg] at hu; cases hu
    · have hl := hT.lt x.toNat (by omega)
      by_cases e : x = fr
      · subst e
        by_cases en : x = n
        · omega
        · rw [under_step hT x n (by omega) hx en]
          have eg : t.getD x.toNat (-1) = n := by
            rw [← hp]
            have : x.toNat < t.length := e2
            simp [List.getD, List.getElem?_eq_getElem this]
          rw [eg]
          exact under_self t n (by omega)
      · by_cases en : x = n
        · subst en; exact under_self t x (by omega)
        · rw [under_step hT x n (by omega) hx en]
          rw [under_step hT x fr (by omega) hx e] at hu
          by_cases hz : t.getD x.toNat (-1) < 0
          · rw [under_neg t _ fr hz] at hu; cases hu
          · exact ih _ (by omega) (by omega) hu
theorem inv_deliver {t : List Int} {D : List Nd} {PK : List (Int × List It)} (h : Inv t D PK) (hT : Tree t) {p : Int × List It} (hp : p ∈ PK) : Inv t (delD t D (t.getD p.1.toNat 0) p.1 p.2) PK := by
  have h8 := hT.le
  unfold delD
  split
  · cases hx : D[(t.getD p.1.toNat 0).toNat]? with
    | none => exact h
    | some d =>
      obtain ⟨p1, p2, pg, px⟩ := h.pk p hp
      have hnd : isNd t p.1 = true := by simp only [isNd, decide_eq_true_eq]; omega
      obtain ⟨e1, e2⟩ := nd_nat hnd
      have hup := hT.up p.1.toNat (by omega) e2
      have en : ((t.getD p.1.toNat 0).toNat : Int) = t.getD p.1.toNat 0 := by omega
      have hin : AllIn p.2 := fun x hx => ⟨pg.ok.mem hx, pg.inb x hx⟩
      refine h.set hx (h.pre _ d hx) (h.cl _ d hx) (h.inn _ d hx) (fun x hx' => ?_) ⟨(h.gd _ d hx).1.dlv hin, (h.gd _ d hx).2⟩ ⟨[], by simp⟩ (fun _ _ h => ⟨h, rfl⟩)
      rcases hx' with hx' | hx'
      · have hm : ∀ (xs l : List It), Good l → AllIn xs → ∀ x ∈ xs.foldl jnd l, x ∈ xs ∨ x ∈ l := by
          intro xs
          induction xs with
          | nil => intro l _ _ x hx; exact .inr hx
          | cons y ys ih =>
            intro l hl hi x hx
            rcases ih (jnd l y) (hl.jnd (hi y (by simp))) (fun z hz => hi z (by simp [hz])) x hx with a | a
            · exact .inl (by simp [a])
            · rcases mem_jnd y l hl.srt x a with b | b
              · exact .inl (by simp [b])
              · exact .inr b
        rcases hm p.2 d.items (h.gd _ d hx).1 hin x hx' with a | a
        · obtain ⟨b1, b2⟩ := px x a
          refine ⟨b1, ?_⟩
          rw [en]
          have hxl := (nd_nat b1.nd).2
          exact under_up hT hnd (by omega) rfl (x.leaf.toNat + 1) x.leaf (by have := (nd_nat b1.nd).1; omega) (by omega) b2
        · exact h.it _ d hx x (.inl a)
      · exact h.it _ d hx x (.inr hx')
  · exact h
theorem fair_pk {t : List Int} {D : List Nd} {PK : List (Int × List It)} (h : Inv t D PK) {p : Int × List It} (hp : p ∈ PK) : fair t (t.getD p.1.toNat 0) p.1 p.2 = true := by
  obtain ⟨p1, p2, pg, px⟩ := h.pk p hp
  refine fair_yes (by simp only [isNd, decide_eq_true_eq]; omega) rfl fun i hi => ?_
  obtain ⟨x, hx⟩ : ∃ x, p.2[i]? = some x := ⟨_, List.getElem?_eq_getElem hi⟩
  obtain ⟨b1, b2⟩ := px x (List.mem_of_getElem? hx)
  unfold okAt
  rw [hx]
  simp only [Option.map_some, Option.getD_some, okIt, b1.nd, b1.lf, b2, Bool.and_true, Bool.true_and, Bool.and_eq_true, decide_eq_true_eq, Bool.or_eq_true]
  refine ⟨⟨b1.w0, b1.w1, b1.v0⟩, ?_⟩
  by_cases e : i = 0
  · exact .inl e
  · right
    obtain ⟨y, hy⟩ : ∃ y, p.2[i - 1]? = some y := ⟨_, List.getElem?_eq_getElem (by omega)⟩
    rw [hy]
    have := List.pairwise_iff_getElem.1 pg.srt (i - 1) i (by omega) hi (by omega)
    rw [(List.getElem?_eq_some_iff.1 hy).2, (List.getElem?_eq_some_iff.1 hx).2] at this
    simpa using this
theorem inv_zero (t : List Int) : Inv t (List.replicate t.length Nd.zero) [] := by
  have hz : ∀ (k : Nat) (d : Nd), (List.replicate t.length Nd.zero)[k]? = some d → d = Nd.zero := fun k d h => by
    obtain ⟨hk, e⟩ := List.getElem?_eq_some_iff.1 h
    rw [← e]; simp
  refine ⟨by simp, fun k d h => ?_, fun k d h w _ hk => ?_, fun k d h _ => ?_, fun k d h x hx => ?_, fun k d h => ?_, fun p hp => by simp at hp⟩
  · rw [hz k d h]; exact ⟨[], by simp [Nd.zero]⟩
  · rw [hz k d h] at hk; simp [Nd.zero] at hk
  · rw [hz k d h]; exact ⟨rfl, rfl⟩
  · rw [hz k d h] at hx; simp [Nd.zero] at hx
  · rw [hz k d h]; exact ⟨Good.nil, Good.nil⟩
end Go.Proofs.Ytpglbakcjihohab

/-! The sketch of a list of events: how many, their sum, the least, the greatest; cut anywhere the pieces merge to the whole; a key that was there changes no register (no program is named here). -/
namespace Go.Proofs.Ytpglbakcjihohab
open Go.RowKit
set_option maxRecDepth 100000

theorem Sk.ext' {a b : Sk} (hc : a.c = b.c) (hs : a.s = b.s) (hl : a.l = b.l) (hg : a.g = b.g) (hr : ∀ k, a.r k = b.r k) (hh : ∀ k, a.h k = b.h k) : a = b := by
  cases a; cases b; simp at hc hs hl hg hr hh; simp [hc, hs, hl, hg, funext hr, funext hh]
theorem mrgComm (a b : Sk) : mrg a b = mrg b a :=
  Sk.ext' (by show min _ _ = min _ _; omega) (by show (a.s + b.s) % _ = (b.s + a.s) % _; omega) (by show min _ _ = min _ _; omega) (by show max _ _ = max _ _; omega)
    (fun k => by show max _ _ = max _ _; omega) (fun k => by show min _ _ = min _ _; omega)
theorem mrgAssoc {a b c : Sk} (oka : a.Ok) (okb : b.Ok) (okc : c.Ok) : mrg (mrg a b) c = mrg a (mrg b c) := by
  have h0 := oka.c0; have h1 := okb.c0; have h2 := okc.c0
  refine Sk.ext' ?_ ?_ ?_ ?_ (fun k => ?_) (fun k => ?_)
  · show min (min (a.c + b.c) 65535 + c.c) 65535 = min (a.c + min (b.c + c.c) 65535) 65535; omega
  · show ((a.s + b.s) % 4294967296 + c.s) % 4294967296 = (a.s + (b.s + c.s) % 4294967296) % 4294967296; omega
  · show min (min a.l b.l) c.l = min a.l (min b.l c.l); omega
  · show max (max a.g b.g) c.g = max a.g (max b.g c.g); omega
  · show max (max (a.r k) (b.r k)) (c.r k) = max (a.r k) (max (b.r k) (c.r k)); omega
  · have := oka.h0 k; have := okb.h0 k; have := okc.h0 k
    show min (min (a.h k + b.h k) 255 + c.h k) 255 = min (a.h k + min (b.h k + c.h k) 255) 255; omega
theorem mrgEmpty {s : Sk} (ok : s.Ok) : mrg Sk.empty s = s := by
  have h0 := ok.c0; have h1 := ok.c1; have h2 := ok.s0; have h3 := ok.s1; have h4 := ok.l0; have h5 := ok.l1; have h6 := ok.g0; have h7 := ok.g1
  refine Sk.ext' ?_ ?_ ?_ ?_ (fun k => ?_) (fun k => ?_)
  · show min (0 + s.c) 65535 = s.c; omega
  · show (0 + s.s) % 4294967296 = s.s; omega
  · show min 2147483647 s.l = s.l; omega
  · show max (-2147483648) s.g = s.g; omega
  · have := ok.r0 k; show max 0 (s.r k) = s.r k; omega
  · have := ok.h0 k; have := ok.h1 k; show min (0 + s.h k) 255 = s.h k; omega

/-- An event: its key, its value. -/
structure Ev where
  key : ByteArray
  v : Int
structure Ev.Ok (e : Ev) : Prop where
  len : e.key.size ≤ maxLen
  v0 : -2147483648 ≤ e.v
  v1 : e.v ≤ 2147483647
def Ev.sk (e : Ev) : Sk := one e.key.data.toList e.v
theorem Ev.Ok.sk {e : Ev} (h : e.Ok) : e.sk.Ok := one_ok _ _ h.v0 h.v1
def Fgo (s : Sk) : List Ev → Sk
  | [] => s
  | e :: l => Fgo (mrg s e.sk) l
def F (l : List Ev) : Sk := Fgo Sk.empty l
def AllOk (l : List Ev) : Prop := ∀ e ∈ l, e.Ok
theorem Fgo_append : ∀ (x y : List Ev) (s : Sk), Fgo s (x ++ y) = Fgo (Fgo s x) y
  | [], _, _ => rfl
  | _ :: x, y, _ => Fgo_append x y _
theorem Fgo_ok : ∀ (l : List Ev) (s : Sk), s.Ok → AllOk l → (Fgo s l).Ok
  | [], _, h, _ => h
  | e :: l, _, h, ha => Fgo_ok l _ (mrg_ok h (ha e (by simp)).sk) (fun x hx => ha x (by simp [hx]))
theorem F_ok (l : List Ev) (h : AllOk l) : (F l).Ok := Fgo_ok l _ Sk.empty_ok h
theorem Fgo_mrg : ∀ (l : List Ev) (s : Sk), s.Ok → AllOk l → Fgo s l = mrg s (F l)
  | [], s, h, _ => by show s = mrg s Sk.empty; rw [mrgComm, mrgEmpty h]
  | e :: l, s, h, ha => by
    have he := (ha e (by simp)).sk
    have hl : AllOk l := fun x hx => ha x (by simp [hx])
    have h1 : Fgo s (e :: l) = mrg (mrg s e.sk) (F l) := Fgo_mrg l _ (mrg_ok h he) hl
    have h2 : F (e :: l) = mrg (mrg Sk.empty e.sk) (F l) := Fgo_mrg l _ (mrg_ok Sk.empty_ok he) hl
    rw [h1, h2, mrgEmpty he, mrgAssoc h he (F_ok l hl)]
theorem F_cons (e : Ev) (l : List Ev) (he : e.Ok) (hl : AllOk l) : F (e :: l) = mrg e.sk (F l) := by
  have h2 : F (e :: l) = mrg (mrg Sk.empty e.sk) (F l) := Fgo_mrg l _ (mrg_ok Sk.empty_ok he.sk) hl
  rw [h2, mrgEmpty he.sk]
theorem F_append (x y : List Ev) (hx : AllOk x) (hy : AllOk y) : F (x ++ y) = mrg (F x) (F y) := by
  show Fgo Sk.empty (x ++ y) = _
  rw [Fgo_append]; exact Fgo_mrg y _ (F_ok x hx) hy
theorem F_snoc (l : List Ev) (e : Ev) : F (l ++ [e]) = mrg (F l) e.sk := by show Fgo Sk.empty (l ++ [e]) = _; rw [Fgo_append]; rfl
theorem AllOk.take {l : List Ev} (h : AllOk l) (k : Nat) : AllOk (l.take k) := fun e he => h e (List.mem_of_mem_take he)
theorem AllOk.drop {l : List Ev} (h : AllOk l) (k : Nat) : AllOk (l.drop k) := fun e he => h e (List.mem_of_mem_drop he)
theorem F_take (l : List Ev) (k : Nat) (h : k < l.length) : F (l.take (k + 1)) = mrg (F (l.take k)) l[k].sk := by
  rw [List.take_succ_eq_append_getElem h, F_snoc]
theorem F_cut (l : List Ev) (k : Nat) (h : AllOk l) : mrg (F (l.drop k)) (F (l.take k)) = F l := by
  rw [mrgComm, ← F_append _ _ (h.take k) (h.drop k), List.take_append_drop]
theorem F_count : ∀ (l : List Ev), AllOk l → (F l).c = min (l.length : Int) 65535
  | [], _ => rfl
  | e :: l, h => by
    have hl : AllOk l := fun x hx => h x (by simp [hx])
    rw [F_cons e l (h e (by simp)) hl]
    show min (1 + (F l).c) 65535 = _
    rw [F_count l hl]; simp only [List.length_cons]; omega
theorem hist_le : ∀ (l : List Ev), AllOk l → ∀ j, (F l).h j ≤ (l.length : Int)
  | [], _, _ => by show (0 : Int) ≤ _; simp
  | e :: l, h, j => by
    have hl : AllOk l := fun x hx => h x (by simp [hx])
    rw [F_cons e l (h e (by simp)) hl]
    have := hist_le l hl j
    show min ((if j = bkt e.v then 1 else 0) + (F l).h j) 255 ≤ _
    simp only [List.length_cons]
    split <;> omega
theorem hsum_step (e : Ev) (t : Sk) : ∀ n, hsum (mrg e.sk t) n ≤ hsum t n + (if bkt e.v < n then 1 else 0)
  | 0 => by simp [hsum]
  | n + 1 => by
    have := hsum_step e t n
    simp only [hsum]
    have hh : (mrg e.sk t).h n = min ((if n = bkt e.v then 1 else 0) + t.h n) 255 := rfl
    rw [hh]
    by_cases h1 : n = bkt e.v
    · rw [if_pos h1, if_pos (by omega)]; rw [if_neg (by omega)] at this; omega
    · rw [if_neg h1]
      by_cases h2 : bkt e.v < n
      · rw [if_pos (by omega)]; rw [if_pos h2] at this; omega
      · rw [if_neg (by omega)]; rw [if_neg h2] at this; omega
theorem hsum_step_eq (e : Ev) (t : Sk) (ht : ∀ k, 0 ≤ t.h k) (hs : ∀ k, t.h k ≤ 254) : ∀ n, hsum (mrg e.sk t) n = hsum t n + (if bkt e.v < n then 1 else 0)
  | 0 => by simp [hsum]
  | n + 1 => by
    have := hsum_step_eq e t ht hs n
    have h0 := ht n
    have h1 := hs n
    simp only [hsum]
    have hh : (mrg e.sk t).h n = min ((if n = bkt e.v then 1 else 0) + t.h n) 255 := rfl
    rw [hh]
    by_cases h1 : n = bkt e.v
    · rw [if_pos h1, if_pos (by omega)]; rw [if_neg (by omega)] at this; omega
    · rw [if_neg h1]
      by_cases h2 : bkt e.v < n
      · rw [if_pos (by omega)]; rw [if_pos h2] at this; omega
      · rw [if_neg (by omega)]; rw [if_neg h2] at this; omega
theorem hits_le : ∀ (l : List Ev), AllOk l → hsum (F l) 8 ≤ (l.length : Int)
  | [], _ => by show hsum Sk.empty 8 ≤ 0; decide
  | e :: l, h => by
    have hl : AllOk l := fun x hx => h x (by simp [hx])
    rw [F_cons e l (h e (by simp)) hl]
    have := hits_le l hl
    have := hsum_step e (F l) 8
    rw [if_pos (bkt_lt _ (h e (by simp)).v1)] at this
    simp only [List.length_cons]; omega
theorem hits_eq : ∀ (l : List Ev), AllOk l → l.length ≤ 255 → hsum (F l) 8 = (l.length : Int)
  | [], _, _ => by show hsum Sk.empty 8 = 0; decide
  | e :: l, h, hn => by
    have hl : AllOk l := fun x hx => h x (by simp [hx])
    simp only [List.length_cons] at hn
    rw [F_cons e l (h e (by simp)) hl]
    have h1 := hits_eq l hl (by omega)
    have h2 := hsum_step_eq e (F l) (F_ok l hl).h0 (fun k => by have := hist_le l hl k; omega) 8
    rw [if_pos (bkt_lt _ (h e (by simp)).v1)] at h2
    simp only [List.length_cons]; omega
theorem reg_in : ∀ (l : List Ev), AllOk l → ∀ (e : Ev), e ∈ l → ∀ (v : Int) (j : Nat), (one e.key.data.toList v).r j ≤ (F l).r j
  | [], _, _, he, _, _ => by cases he
  | x :: l, h, e, he, v, j => by
    have hl : AllOk l := fun x hx => h x (by simp [hx])
    rw [F_cons x l (h x (by simp)) hl]
    show _ ≤ max (x.sk.r j) ((F l).r j)
    rcases List.mem_cons.1 he with rfl | he
    · have : e.sk.r j = (one e.key.data.toList v).r j := rfl
      omega
    · have := reg_in l hl e he v j
      omega
theorem again_r (l : List Ev) (h : AllOk l) (e : Ev) (he : e ∈ l) (j : Nat) : (mrg (F l) (one e.key.data.toList 5)).r j = (F l).r j := by
  have := reg_in l h e he 5 j
  show max _ _ = _; omega
theorem wsum_r (s t : Sk) (h : ∀ j, s.r j = t.r j) : ∀ k, wsum s k = wsum t k
  | 0 => rfl
  | k + 1 => by simp only [wsum]; rw [wsum_r s t h k, h k]
theorem wsum_empty : wsum Sk.empty 16 = 68719476736 := by decide +kernel
end Go.Proofs.Ytpglbakcjihohab

/-! What a run has in memory: the program's store, the tree, each node's own book of events, the packets that were laid by. -/
namespace Go.Proofs.Ytpglbakcjihohab
open Go.RowKit
set_option maxRecDepth 100000

/-! ### Events, a node's book -/
def Ev.cells (e : Ev) : List Value := [.string e.key, .int .i32 e.v]
abbrev clE : Cl Ev := ⟨Ev.cells, 2, by decide, fun _ => rfl, fun _ v hv => by
  simp only [Ev.cells, List.mem_cons, List.not_mem_nil, or_false] at hv
  rcases hv with rfl | rfl <;> rfl⟩
theorem slE : SlT Try.prog clE 82 110 24 := ⟨Try.underlying82, by kernel_rfl⟩
def evOf (e : Ev3) : Ev := ⟨e.key, e.v⟩
structure SrcC where
  ev : Nat → Sl
  kept : Nat → Int
  cl : Nat → Bool
  sh : Nat → Bool
  mark : Int
  saved : Int
def SrcC.at (c : SrcC) (i : Nat) : Value := if i < 20 then (c.ev i).val else if i < 40 then .int .i64 (c.kept (i - 20)) else if i < 60 then .bool (c.cl (i - 40)) else if i < 80 then .bool (c.sh (i - 60)) else if i = 80 then .int .i64 c.mark else .int .i64 c.saved
def SrcC.cells (c : SrcC) : List Value := (List.range 82).map c.at
theorem SrcC.len (c : SrcC) : c.cells.length = 82 := by simp [SrcC.cells]
theorem SrcC.one (c : SrcC) : ∀ v ∈ c.cells, v.oneCell' = true := fun v hv => by
  obtain ⟨i, _, rfl⟩ := List.mem_map.1 hv
  unfold SrcC.at
  repeat' split
  all_goals rfl
abbrev clSrc : Cl SrcC := ⟨SrcC.cells, 82, by decide, SrcC.len, SrcC.one⟩
theorem SrcC.get (c : SrcC) (i : Nat) (hi : i < 82) : c.cells[i]? = some (c.at i) := by simp [SrcC.cells, hi]
theorem SrcC.set (c c' : SrcC) (i : Nat) (v : Value) (hi : i < 82) (hv : c'.at i = v) (ho : ∀ j, j < 82 → j ≠ i → c'.at j = c.at j) : c'.cells = c.cells.set i v := by
  apply List.ext_getElem?
  intro j
  by_cases hj : j < 82
  · rw [List.getElem?_set]
    by_cases e : i = j
    · subst e; rw [if_pos rfl, if_pos (by rw [SrcC.len]; exact hi), SrcC.get _ _ hi, hv]
    · rw [if_neg e, SrcC.get _ _ hj, SrcC.get _ _ hj, ho j hj (fun e' => e e'.symm)]
  · rw [List.getElem?_eq_none (by rw [SrcC.len]; omega), List.getElem?_eq_none (by rw [List.length_set, SrcC.len]; omega)]
theorem SrcC.at_ev (c : SrcC) (v : Nat) (hv : v < 20) : c.at v = .slice (c.ev v).p (c.ev v).n (c.ev v).c := by unfold SrcC.at; rw [if_pos hv]; rfl
theorem SrcC.at_kept (c : SrcC) (v : Nat) (hv : v < 20) : c.at (20 + v) = .int .i64 (c.kept v) := by unfold SrcC.at; rw [if_neg (by omega), if_pos (by omega), show 20 + v - 20 = v by omega]
theorem SrcC.at_cl (c : SrcC) (v : Nat) (hv : v < 20) : c.at (40 + v) = .bool (c.cl v) := by unfold SrcC.at; rw [if_neg (by omega), if_neg (by omega), if_pos (by omega), show 40 + v - 40 = v by omega]
theorem SrcC.at_sh (c : SrcC) (v : Nat) (hv : v < 20) : c.at (60 + v) = .bool (c.sh v) := by unfold SrcC.at; rw [if_neg (by omega), if_neg (by omega), if_neg (by omega), if_pos (by omega), show 60 + v - 60 = v by omega]
theorem SrcC.at_mark (c : SrcC) : c.at 80 = .int .i64 c.mark := by simp [SrcC.at]
theorem SrcC.at_saved (c : SrcC) : c.at 81 = .int .i64 c.saved := by simp [SrcC.at]
theorem slSrc : SlT Try.prog clSrc 29 87 696 := ⟨Try.underlying29, by kernel_rfl⟩
/-- A node's book in memory tells what the node has taken in. -/
structure SrcRep (w : World) (own : Ghost) (B0 k : Nat) (c : SrcC) (d : Nd) : Prop where
  ev : ∀ v : Nat, v < 20 → Own clE w B0 110 (c.ev v).val ((evK d.lev v).map evOf)
  te : ∀ v : Nat, v < 20 → TgV own (c.ev v).val (.wd (2 + 20 * k + v))
  kept : ∀ v : Nat, v < 20 → c.kept v = ((evK d.kev v).length : Int)
  cl : ∀ v : Nat, v < 20 → c.cl v = d.lcl v
  sh : ∀ v : Nat, v < 20 → c.sh v = d.kcl v
  mark : c.mark = d.lmk
  saved : c.saved = d.kmk
theorem SrcRep.chg {w w' : World} {own own' : Ghost} {B0 k : Nat} {c : SrcC} {d : Nd} (h : SrcRep w own B0 k c d) {S : Tag → Prop} (f : Fr own S w w') (s : Same w own own') (hS : ∀ v, v < 20 → ¬ S (.wd (2 + 20 * k + v))) : SrcRep w' own' B0 k c d :=
  ⟨fun v hv => (h.ev v hv).fr f (h.te v hv) (by simp) (hS v hv), fun v hv => (h.te v hv).own s (h.ev v hv) (by simp), h.kept, h.cl, h.sh, h.mark, h.saved⟩

/-! ### The run -/
/-- A packet that was laid by, and what it holds. -/
def PkIs (w : World) (own : Ghost) (x : Pk) (p : Int × List It) : Prop := x.fr = p.1 ∧ p.2.length = x.s.n ∧ RowsAt clIt w x.s.p p.2 ∧ ∀ b off, x.s.p = some ⟨b, off, none⟩ → b < w.heap.size ∧ own b = .ldI
theorem PkIs.chg {w w' : World} {own own' : Ghost} {x : Pk} {p : Int × List It} (h : PkIs w own x p) {S : Tag → Prop} (f : Fr own S w w') (s : Same w own own') (h1 : ¬ S .ldI) : PkIs w' own' x p := by
  obtain ⟨h0, h2, h3, h6⟩ := h
  refine ⟨h0, h2, h3.chg f.size fun b off e => ?_, fun b off e => ?_⟩
  · obtain ⟨hb, ho⟩ := h6 b off e
    exact f.block b hb (by rw [ho]; simp) (by rw [ho]; exact h1)
  · obtain ⟨hb, ho⟩ := h6 b off e
    exact ⟨Nat.lt_of_lt_of_le hb f.size, by rw [s b hb (by rw [ho]; simp)]; exact ho⟩
/-- What a node's numbers keep to. -/
structure NdB (wid : Int) (d : Nd) : Prop where
  lev : EvOk d.lev
  kev : EvOk d.kev
  lm0 : 0 ≤ d.lmk
  lm1 : d.lmk ≤ 20 * wid
  km0 : 0 ≤ d.kmk
  km1 : d.kmk ≤ 20 * wid
structure KD (SR : SRT) (w : World) (own : Ghost) (B0 bk bs : Nat) (t : List Int) (wid : Int) (m : Nat) (D : List Nd) (vt vs vl : Sl) (C : List SrcC) (PK : List Pk) (A : List (Int × List It)) : Prop where
  T : Tree t
  wid0 : 1 ≤ wid
  wid1 : wid ≤ 1000
  run : w.heap[bk]? = some (.cells #[.pointer (some ⟨bs, 0, none⟩), vt.val, .int .i64 wid, vs.val, vl.val] 31)
  gm : own bk = .gm
  b0 : B0 ≤ w.heap.size
  st : SR w own B0 bs t wid D
  tr : Own clInt w B0 3 vt.val t
  tt : TgV own vt.val (.wd 0)
  so : Own clSrc w B0 87 vs.val C
  ts : TgV own vs.val (.wd 1)
  lc : C.length = t.length
  rep : ∀ (k : Nat) (c : SrcC) (d : Nd), C[k]? = some c → D[k]? = some d → SrcRep w own B0 k c d
  ol : Own clPk w B0 34 vl.val PK
  tl : TgV own vl.val .ld
  la : A.length = PK.length
  pk : ∀ (i : Nat) (x : Pk) (p : Int × List It), PK[i]? = some x → A[i]? = some p → PkIs w own x p
  inv : Inv t D A
  di : DI D m
  nb : ∀ (k : Nat) (d : Nd), D[k]? = some d → NdB wid d
  lp : PK.length ≤ m
theorem KD.chg {SR : SRT} (R : PR SR) {w w' : World} {own own' : Ghost} {B0 bk bs : Nat} {t : List Int} {wid : Int} {m : Nat} {D : List Nd} {vt vs vl : Sl} {C : List SrcC} {PK : List Pk} {A : List (Int × List It)} (h : KD SR w own B0 bk bs t wid m D vt vs vl C PK A) {S : Tag → Prop} (f : Fr own S w w') (s : Same w own own') (hS : ∀ t : Tag, S t → t = .arg) : KD SR w' own' B0 bk bs t wid m D vt vs vl C PK A := by
  have n1 : ¬ S .gm := fun e => by have := hS _ e; simp at this
  have n2 : ∀ i, ¬ S (.st i) := fun i e => by have := hS _ e; simp at this
  have n3 : ∀ i, ¬ S (.wd i) := fun i e => by have := hS _ e; simp at this
  have n4 : ¬ S .ld := fun e => by have := hS _ e; simp at this
  have n5 : ¬ S .ldI := fun e => by have := hS _ e; simp at this
  exact ⟨h.T, h.wid0, h.wid1, by rw [f.block bk (lt_of_blk h.run) (by rw [h.gm]; simp) (by rw [h.gm]; exact n1)]; exact h.run, by rw [s bk (lt_of_blk h.run) (by rw [h.gm]; simp)]; exact h.gm, Nat.le_trans h.b0 f.size, R.chg h.st f s n2, h.tr.fr f h.tt (by simp) (n3 0), h.tt.own s h.tr (by simp), h.so.fr f h.ts (by simp) (n3 1), h.ts.own s h.so (by simp), h.lc, fun k c d hc hd => (h.rep k c d hc hd).chg f s (fun v _ => n3 _), h.ol.fr f h.tl (by simp) n4, h.tl.own s h.ol (by simp), h.la, fun i x p hx hp => (h.pk i x p hx hp).chg f s n5, h.inv, h.di, h.nb, h.lp⟩
theorem KD.below {SR : SRT} (R : PR SR) {w w' : World} {own : Ghost} {B0 bk bs : Nat} {t : List Int} {wid : Int} {m : Nat} {D : List Nd} {vt vs vl : Sl} {C : List SrcC} {PK : List Pk} {A : List (Int × List It)} (h : KD SR w own B0 bk bs t wid m D vt vs vl C PK A) (hb : Below w.heap.size w w') : KD SR w' own B0 bk bs t wid m D vt vs vl C PK A :=
  h.chg R (S := fun _ => False) (Fr.of_below hb) (Same.refl _ _) (fun _ h => h.elim)
theorem KD.mono {SR : SRT} {w : World} {own : Ghost} {B0 bk bs : Nat} {t : List Int} {wid : Int} {m m' : Nat} {D : List Nd} {vt vs vl : Sl} {C : List SrcC} {PK : List Pk} {A : List (Int × List It)} (h : KD SR w own B0 bk bs t wid m D vt vs vl C PK A) (hm : m ≤ m') : KD SR w own B0 bk bs t wid m' D vt vs vl C PK A :=
  { h with di := fun k d hk => by { have := h.di k d hk; exact ⟨by omega, by omega, this.2.2⟩ }, lp := Nat.le_trans h.lp hm }
/-- A run that holds D, with the packets A. -/
def KX (SR : SRT) (B0 bk bs : Nat) (t : List Int) (wid : Int) (m : Nat) (D : List Nd) (A : List (Int × List It)) (w : World) (own : Ghost) : Prop := ∃ vt vs vl C PK, KD SR w own B0 bk bs t wid m D vt vs vl C PK A
def notA (t : Tag) : Prop := t ≠ .arg
/-- What a step of a run leaves. -/
def KN (SR : SRT) (B0 bk bs : Nat) (t : List Int) (wid : Int) (m : Nat) (D : List Nd) (A : List (Int × List It)) (w : World) (own : Ghost) (w' : World) : Prop := ∃ own', KX SR B0 bk bs t wid m D A w' own' ∧ Same w own own' ∧ Fr own notA w w'
theorem KN.tt {SR : SRT} {B0 bk bs : Nat} {t : List Int} {wid : Int} {m : Nat} {D D' : List Nd} {A : List (Int × List It)} {w w' : World} {own : Ghost} (e : D' = D) (h : KN SR B0 bk bs t wid m D A w own w') : KN SR B0 bk bs t wid m D' A w own w' := e ▸ h
/-- The sources' block alone has changed: one node's book in it. -/
theorem KD.book {SR : SRT} (R : PR SR) {w w' : World} {own : Ghost} {B0 bk bs : Nat} {t : List Int} {wid : Int} {m : Nat} {D : List Nd} {vt vs vl : Sl} {C : List SrcC} {PK : List Pk} {A : List (Int × List It)} (h : KD SR w own B0 bk bs t wid m D vt vs vl C PK A) (f : Fr own (fun t => t = .wd 1) w w') (C' : List SrcC) (hso : Own clSrc w' B0 87 vs.val C') (hlc : C'.length = C.length) (hrep : ∀ (k : Nat) (c : SrcC) (d : Nd), C'[k]? = some c → D[k]? = some d → SrcRep w' own B0 k c d) : KD SR w' own B0 bk bs t wid m D vt vs vl C' PK A :=
  ⟨h.T, h.wid0, h.wid1, by rw [f.block bk (lt_of_blk h.run) (by rw [h.gm]; simp) (by rw [h.gm]; simp)]; exact h.run, h.gm, Nat.le_trans h.b0 f.size, R.chg h.st f (Same.refl _ _) (fun i => by simp), h.tr.fr f h.tt (by simp) (by simp), h.tt, hso, h.ts, hlc.trans h.lc, hrep, h.ol.fr f h.tl (by simp) (by simp), h.tl, h.la, fun i x p hx hp => (h.pk i x p hx hp).chg f (Same.refl _ _) (by simp), h.inv, h.di, h.nb, h.lp⟩
end Go.Proofs.Ytpglbakcjihohab

/-! A run takes an event in. -/
namespace Go.Proofs.Ytpglbakcjihohab
open Go.RowKit
set_option maxRecDepth 100000

/-- What a call of a run may change: the store, the books. -/
def isKs (t : Tag) : Prop := (∃ i, t = .st i) ∨ ∃ i, t = .wd i ∧ i ≠ 0
theorem isKs_st (i : Nat) : isKs (.st i) := .inl ⟨i, rfl⟩
theorem isKs_wd (i : Nat) (h : i ≠ 0) : isKs (.wd i) := .inr ⟨i, rfl, h⟩
theorem KD.re {SR : SRT} {w w' : World} {own own' : Ghost} {B0 bk bs : Nat} {t : List Int} {wid : Int} {m m' : Nat} {D D' : List Nd} {vt vs vl : Sl} {C C' : List SrcC} {PK : List Pk} {A : List (Int × List It)} (h : KD SR w own B0 bk bs t wid m D vt vs vl C PK A) (f : Fr own isKs w w') (s : Same w own own') (hst : SR w' own' B0 bs t wid D') (hso : Own clSrc w' B0 87 vs.val C') (hlc : C'.length = C.length)
    (hrep : ∀ (k : Nat) (c : SrcC) (d : Nd), C'[k]? = some c → D'[k]? = some d → SrcRep w' own' B0 k c d) (hinv : Inv t D' A) (hdi : DI D' m') (hnb : ∀ (k : Nat) (d : Nd), D'[k]? = some d → NdB wid d) (hm : m ≤ m') : KD SR w' own' B0 bk bs t wid m' D' vt vs vl C' PK A := by
  have n1 : ¬ isKs .gm := by rintro (⟨i, e⟩ | ⟨i, e, _⟩) <;> simp at e
  have n3 : ¬ isKs (.wd 0) := by
    rintro (⟨i, e⟩ | ⟨i, e, h0⟩)
    · simp at e
    · simp at e; omega
  have n4 : ¬ isKs .ld := by rintro (⟨i, e⟩ | ⟨i, e, _⟩) <;> simp at e
  have n5 : ¬ isKs .ldI := by rintro (⟨i, e⟩ | ⟨i, e, _⟩) <;> simp at e
  exact ⟨h.T, h.wid0, h.wid1, by rw [f.block bk (lt_of_blk h.run) (by rw [h.gm]; simp) (by rw [h.gm]; exact n1)]; exact h.run, by rw [s bk (lt_of_blk h.run) (by rw [h.gm]; simp)]; exact h.gm, Nat.le_trans h.b0 f.size, hst, h.tr.fr f h.tt (by simp) n3, h.tt.own s h.tr (by simp), hso, h.ts.own s h.so (by simp), hlc.trans h.lc, hrep, h.ol.fr f h.tl (by simp) n4, h.tl.own s h.ol (by simp), h.la, fun i x p hx hp => (h.pk i x p hx hp).chg f s n5, hinv, hdi, hnb, Nat.le_trans h.lp hm⟩
theorem cell_fr' {own : Ghost} {S : Tag → Prop} {w w' : World} (f : Fr own S w w') {b o : Nat} {v : Value} (hc : w.cell? ⟨b, o, none⟩ = some v) (hf : own b ≠ .free) (hn : ¬ S (own b)) : w'.cell? ⟨b, o, none⟩ = some v := by
  rw [World.cell?_of_block (w := w) (f.block b (block_lt_of_cell hc) hf hn)]; exact hc
theorem DI.mono' {D : List Nd} {m m' : Nat} (h : DI D m) (hm : m ≤ m') : DI D m' := fun k d hk => by have := h k d hk; exact ⟨by omega, by omega, this.2.2⟩
theorem fr_st {own : Ghost} {w w' : World} (f : Fr own isSt w w') : Fr own isKs w w' := f.mono fun _ ⟨i, e⟩ => .inl ⟨i, e⟩
theorem nKs_wd {k v k' v' : Nat} (hv : v < 20) (hv' : v' < 20) (h : ¬ (k = k' ∧ v = v')) : (Tag.wd (2 + 20 * k + v)) ≠ .wd (2 + 20 * k' + v') := by
  intro e
  simp at e
  omega
section
variable {ops : Array Oper} {i : Nat} {o : Oper} {a : Act} {w : World} {Q : Exit → Act → World → Prop} {K : Act → World → Prop}
theorem wpOp_build1_e (hi : ops[i]? = some o) (hg : o.guard = none) (x : Operand) (ho : o.op = .buildSlice 82 1 #[(0, x)]) (e : Ev) (hx : a.eval x = .agg #[.string e.key, .int .i32 e.v])
    (h : RowsAt clE (w.alloc (.cells (flat clE [e]).toArray 110)) (some ⟨w.heap.size, 0, none⟩) [e] → K (a.put o.dst (.slice (some ⟨w.heap.size, 0, none⟩) 1 1)) (w.alloc (.cells (flat clE [e]).toArray 110))) : wpOp Try.prog ops Q i K a w :=
  wpOp_build1_cl slE hi hg x ho e _ hx rfl (by decide) h
theorem wpOp_append_e (hi : ops[i]? = some o) (hg : o.guard = none) (s x : Operand) (ho : o.op = .call { callee := .builtin .append, args := #[s, x], argTypes := #[82, 82] }) (base : Nat) (v : Value) (l : List Ev) (hs : a.eval s = v) (hown : Own clE w base 110 v l)
    (p : Option Addr) (m c : Nat) (ms : List Ev) (hx : a.eval x = .slice p m c) (hm : ms.length = m) (hr : RowsAt clE w p ms) (hpos : 0 < m) (h63 : l.length + m ≤ 1000000000) (hbase : base ≤ w.heap.size)
    (h : ∀ v' w', Own clE w' base 110 v' (l ++ ms) → w.grownBy w' v.ownBlock → (v'.ownBlock = v.ownBlock ∨ v'.ownBlock = some w.heap.size) → (∃ g cap, v' = .slice (some ⟨g, 0, none⟩) (l ++ ms).length cap) → K (a.put o.dst v') w') : wpOp Try.prog ops Q i K a w :=
  wpOp_append_cl slE hi hg s x ho base v l hs hown p m c ms hx hm hr hpos (by simp only [maxLen]; omega) (by omega) hbase h
end
/-- The book's and the store's new state, put together. -/
theorem king_done {SR : SRT} (R : PR SR) {w w2 w3 w4 : World} {own own2 : Ghost} {B0 bk bs : Nat} {t : List Int} {wid : Int} {m : Nat} {D : List Nd} {vt vl : Sl} {gs cs : Nat} {C : List SrcC} {PK : List Pk} {A : List (Int × List It)} (g : KD SR w own B0 bk bs t wid m D vt ⟨some ⟨gs, 0, none⟩, t.length, cs⟩ vl C PK A)
    (k q : Nat) (c : SrcC) (d : Nd) (hc : C[k]? = some c) (hd : D[k]? = some d) (hq : q < 20) (e : Ev3) (he : e.win = q) (hok : e.Ok) (hst : SR w2 own2 B0 bs t wid (D.set k { d with lev := d.lev ++ [e] })) (sm : Same w own own2) (fr : Fr own isSt w w2) (hinv : Inv t (D.set k { d with lev := d.lev ++ [e] }) A)
    (b3 : Below w2.heap.size w2 w3) (s4 : Sl) (o4 : Own clE w4 B0 110 s4.val ((evK d.lev q).map evOf ++ [evOf e])) (g4 : w3.grownBy w4 (c.ev q).val.ownBlock) (t4 : s4.val.ownBlock = (c.ev q).val.ownBlock ∨ s4.val.ownBlock = some w3.heap.size) :
    KN SR B0 bk bs t wid (m + 1) (D.set k { d with lev := d.lev ++ [e] }) A w own (w4.setCell ⟨gs, k * 82 + q, none⟩ s4.val) := by
  have rep := g.rep k c d hc hd
  have s23 := b3.size
  have s34 := g4.size
  have s12 := fr.size
  have hso : Own clSrc w B0 87 (.slice (some ⟨gs, 0, none⟩) t.length cs) C := g.so
  have hgs : gs < w.heap.size := (hso.lt gs rfl).2
  have tgs : own gs = .wd 1 := g.ts gs rfl
  have te : ∀ j, (c.ev q).val.ownBlock = some j → own j = .wd (2 + 20 * k + q) := rep.te q hq
  have ltv : ∀ j, (c.ev q).val.ownBlock = some j → j < w.heap.size := fun j hj => ((rep.ev q hq).lt j hj).2
  have ngs : (c.ev q).val.ownBlock ≠ some gs := fun e' => by have := te gs e'; rw [tgs] at this; simp at this; omega
  have ngs4 : s4.val.ownBlock ≠ some gs := fun e' => by
    rcases t4 with a | a
    · exact ngs (a ▸ e')
    · rw [a] at e'; have := Option.some.inj e'; omega
  let own4 : Ghost := fun j => if s4.val.ownBlock = some j then .wd (2 + 20 * k + q) else own2 j
  have sm4 : Same w own own4 := fun j hj hf => by
    by_cases e' : s4.val.ownBlock = some j
    · simp only [own4, if_pos e']
      rcases t4 with a | a
      · exact (te j (a ▸ e')).symm
      · rw [a] at e'; have := Option.some.inj e'; omega
    · simp only [own4, if_neg e']; exact sm j hj hf
  have blk4 : ∀ j, j < w2.heap.size → j ≠ gs → (c.ev q).val.ownBlock ≠ some j → (w4.setCell ⟨gs, k * 82 + q, none⟩ s4.val).heap[j]? = w2.heap[j]? := fun j hj h1 h2 => by
    rw [heap_setCell_other _ _ _ _ (by show j ≠ gs; exact h1), g4.block j (by omega) (fun e' => h2 e'.symm), b3.block j hj]
  have f4 : Fr own isKs w (w4.setCell ⟨gs, k * 82 + q, none⟩ s4.val) := by
    refine ⟨g4.os.trans (b3.os.trans fr.os), g4.tape.trans (b3.tape.trans fr.tape), g4.output.trans (b3.output.trans fr.output), by simp; omega, fun j hj hf hn => ?_⟩
    rw [blk4 j (by omega) (fun e' => hn (by rw [e', tgs]; exact isKs_wd 1 (by decide))) (fun e' => hn (by rw [te j e']; exact isKs_wd _ (by omega)))]
    exact fr.block j hj hf fun ⟨i, e'⟩ => hn (by rw [e']; exact isKs_st i)
  have sm24 : Same w2 own2 own4 := fun j hj hf => by
    by_cases e' : s4.val.ownBlock = some j
    · simp only [own4, if_pos e']
      rcases t4 with a | a
      · have hj' := a ▸ e'
        rw [sm j (ltv j hj') (by rw [te j hj']; simp), te j hj']
      · rw [a] at e'; have := Option.some.inj e'; omega
    · simp only [own4, if_neg e']
  have f24 : Fr own2 (fun t => ∃ i, t = Tag.wd i) w2 (w4.setCell ⟨gs, k * 82 + q, none⟩ s4.val) := by
    refine ⟨g4.os.trans b3.os, g4.tape.trans b3.tape, g4.output.trans b3.output, by simp; omega, fun j hj hf hn => ?_⟩
    refine blk4 j hj (fun e' => hn ⟨1, ?_⟩) (fun e' => hn ⟨2 + 20 * k + q, ?_⟩)
    · rw [e', sm gs hgs (by rw [tgs]; simp)]; exact tgs
    · rw [sm j (ltv j e') (by rw [te j e']; simp)]; exact te j e'
  have hkD : k < D.length := (List.getElem?_eq_some_iff.1 hd).1
  have hset : (D.set k { d with lev := d.lev ++ [e] })[k]? = some { d with lev := d.lev ++ [e] } := List.getElem?_set_self hkD
  have hso4 : Own clSrc (w4.setCell ⟨gs, k * 82 + q, none⟩ s4.val) B0 87 (.slice (some ⟨gs, 0, none⟩) t.length cs) (C.set k { c with ev := fun v => if v = q then s4 else c.ev v }) := by
    have h1 : Own clSrc w4 B0 87 (.slice (some ⟨gs, 0, none⟩) t.length cs) C := hso.chg fun j hj => by
      obtain rfl : gs = j := Option.some.inj hj
      rw [g4.block gs (by omega) (fun e' => ngs e'.symm), b3.block gs (by omega), fr.block gs hgs (by rw [tgs]; simp) (by rw [tgs]; rintro ⟨i, e'⟩; simp at e')]
    refine h1.cell_set k c _ hc q s4.val (by show q < 82; omega) (SrcC.set c _ q _ (by omega) (by rw [SrcC.at_ev _ q hq]; simp [Sl.val]) fun j hj hne => ?_)
    unfold SrcC.at
    by_cases hj20 : j < 20
    · rw [if_pos hj20, if_pos hj20]; simp only [if_neg hne]
    · rw [if_neg hj20, if_neg hj20]
  refine ⟨own4, ⟨_, _, _, _, _, g.re (m' := m + 1) f4 sm4 (R.chg hst f24 sm24 (fun i => by rintro ⟨j, e'⟩; simp at e')) hso4 (by simp) (fun j c' d' hc' hd' => ?_) hinv (fun j d' hj => ?_) (fun j d' hj => ?_) (by omega)⟩, sm4, f4.mono fun t ht => by rcases ht with ⟨i, rfl⟩ | ⟨i, rfl, _⟩ <;> simp [notA]⟩
  · by_cases ej : k = j
    · subst ej
      rw [hset] at hd'; cases hd'
      rw [List.getElem?_set_self (List.getElem?_eq_some_iff.1 hc).1] at hc'; cases hc'
      refine ⟨fun v hv => ?_, fun v hv => ?_, rep.kept, rep.cl, rep.sh, rep.mark, rep.saved⟩
      · by_cases ev : v = q
        · subst ev
          simp only [if_true]
          have e1 : (evK (d.lev ++ [e]) (v : Int)).map evOf = (evK d.lev v).map evOf ++ [evOf e] := by rw [evK_add, if_pos he]; simp
          rw [e1]
          exact o4.chg fun j hj => heap_setCell_other _ _ _ _ (by show j ≠ gs; intro e'; exact ngs4 (by rw [hj, e']))
        · simp only [if_neg ev]
          have e1 : evK (d.lev ++ [e]) (v : Int) = evK d.lev v := by rw [evK_add, if_neg (by rw [he]; omega)]; simp
          rw [e1]
          refine (rep.ev v hv).chg fun j hj => ?_
          have hjw := ((rep.ev v hv).lt j hj).2
          have htj := rep.te v hv j hj
          rw [blk4 j (by omega) (fun e' => by rw [e', tgs] at htj; simp at htj; omega) (fun e' => by rw [te j e'] at htj; exact nKs_wd hq hv (by omega) htj)]
          exact fr.block j hjw (by rw [htj]; simp) (by rw [htj]; rintro ⟨i, e'⟩; simp at e')
      · by_cases ev : v = q
        · subst ev; simp only [if_true]; exact fun j hj => if_pos hj
        · simp only [if_neg ev]; exact (rep.te v hv).own sm4 (rep.ev v hv) (by simp)
    · rw [List.getElem?_set_ne ej] at hd' hc'
      have rj := g.rep j c' d' hc' hd'
      refine ⟨fun v hv => ?_, fun v hv => (rj.te v hv).own sm4 (rj.ev v hv) (by simp), rj.kept, rj.cl, rj.sh, rj.mark, rj.saved⟩
      refine (rj.ev v hv).chg fun i hi => ?_
      have hiw := ((rj.ev v hv).lt i hi).2
      have hti := rj.te v hv i hi
      rw [blk4 i (by omega) (fun e' => by rw [e', tgs] at hti; simp at hti; omega) (fun e' => by rw [te i e'] at hti; exact nKs_wd hq hv (fun h => ej h.1) hti)]
      exact fr.block i hiw (by rw [hti]; simp) (by rw [hti]; rintro ⟨i, e'⟩; simp at e')
  · rcases set_some hj with ⟨rfl, rfl⟩ | ⟨_, hj⟩
    · have := g.di _ d hd; exact ⟨by simp; omega, by have := this.2.1; show d.kev.length ≤ m + 1; omega, this.2.2⟩
    · have := g.di j d' hj; exact ⟨by omega, by omega, this.2.2⟩
  · rcases set_some hj with ⟨rfl, rfl⟩ | ⟨_, hj⟩
    · have hb := g.nb _ d hd
      refine ⟨fun i x hx => ?_, hb.kev, hb.lm0, hb.lm1, hb.km0, hb.km1⟩
      rcases Nat.lt_or_ge i d.lev.length with h1 | h1
      · rw [List.getElem?_append_left h1] at hx; exact hb.lev i x hx
      · rw [List.getElem?_append_right h1] at hx
        have hm := List.mem_of_getElem? hx
        rw [List.mem_singleton.1 hm]; exact hok
    · exact g.nb j d' hj
/-- The store's new state where the books stay. -/
theorem KD.stay {SR : SRT} {w w2 : World} {own own2 : Ghost} {B0 bk bs : Nat} {t : List Int} {wid : Int} {m : Nat} {D : List Nd} {vt vs vl : Sl} {C : List SrcC} {PK : List Pk} {A : List (Int × List It)} (g : KD SR w own B0 bk bs t wid m D vt vs vl C PK A) (hst : SR w2 own2 B0 bs t wid D) (sm : Same w own own2) (fr : Fr own isSt w w2) : KD SR w2 own2 B0 bk bs t wid m D vt vs vl C PK A :=
  g.re (fr_st fr) sm hst (g.so.fr fr g.ts (by simp) (by rintro ⟨i, e⟩; simp at e)) rfl (fun k c d hc hd => (g.rep k c d hc hd).chg fr sm (fun v _ => by rintro ⟨i, e⟩; simp at e)) g.inv g.di g.nb (Nat.le_refl _)
end Go.Proofs.Ytpglbakcjihohab

/-! A run takes an event in: the walk. -/
namespace Go.Proofs.Ytpglbakcjihohab
open Go.RowKit
set_option maxRecDepth 100000

theorem KD.src {SR : SRT} {w : World} {own : Ghost} {B0 bk bs : Nat} {t : List Int} {wid : Int} {m : Nat} {D : List Nd} {vt vs vl : Sl} {C : List SrcC} {PK : List Pk} {A : List (Int × List It)} (g : KD SR w own B0 bk bs t wid m D vt vs vl C PK A) : ∃ gs cs, vs = ⟨some ⟨gs, 0, none⟩, t.length, cs⟩ := by
  obtain ⟨p, n, c⟩ := vs
  have h := g.so
  have hl := g.lc
  have hp := g.T.pos
  rcases h.2 with ⟨e, h0⟩ | ⟨g1, cap, cur, e, _⟩
  · omega
  · simp only [Sl.val] at e
    injection e with e1 e2 e3
    exact ⟨g1, cap, by rw [e1, e2, e3, hl]⟩
theorem KD.at {SR : SRT} {w : World} {own : Ghost} {B0 bk bs : Nat} {t : List Int} {wid : Int} {m : Nat} {D : List Nd} {vt vs vl : Sl} {C : List SrcC} {PK : List Pk} {A : List (Int × List It)} (g : KD SR w own B0 bk bs t wid m D vt vs vl C PK A) (k : Nat) (hk : k < t.length) : ∃ c d, C[k]? = some c ∧ D[k]? = some d ∧ SrcRep w own B0 k c d ∧ NdB wid d := by
  have h1 := g.lc
  have h2 := g.inv.ld
  have hc : C[k]? = some (C[k]'(by omega)) := List.getElem?_eq_getElem _
  have hd : D[k]? = some (D[k]'(by omega)) := List.getElem?_eq_getElem _
  exact ⟨_, _, hc, hd, g.rep k _ _ hc hd, g.nb k _ hd⟩
theorem cell_st {own : Ghost} {w w' : World} (f : Fr own isSt w w') {b o : Nat} {v : Value} (hc : w.cell? ⟨b, o, none⟩ = some v) (h : own b = .gm ∨ ∃ i, own b = .wd i) : w'.cell? ⟨b, o, none⟩ = some v := by
  refine cell_fr' f hc ?_ ?_
  · rcases h with h | ⟨i, h⟩ <;> rw [h] <;> simp
  · rcases h with h | ⟨i, h⟩ <;> rw [h] <;> rintro ⟨j, e⟩ <;> simp at e
set_option maxHeartbeats 8000000 in
theorem king_any (SR : SRT) (R : PR SR) (Q : PL SR) (w : World) (own : Ghost) (B0 bk bs : Nat) (t : List Int) (wid : Int) (m : Nat) (D : List Nd) (A : List (Int × List It)) (hx : KX SR B0 bk bs t wid m D A w own) (hm : m < 100000000) (k : Nat) (hk : k < t.length) (hlf : isLf t k = true) (at' : Int) (a0 : 0 ≤ at') (a1 : at' < 20 * wid) (key : ByteArray) (hks : key.size ≤ 20) (v : Int) (v0 : -2147483648 ≤ v) (v1 : v ≤ 2147483647) :
    Calls Try.prog 34 #[.pointer (some ⟨bk, 0, none⟩), .int .i64 k, .int .i64 at', .string key, .int .i32 v] w fun e w' => e = .returned (.bool true) ∧ KN SR B0 bk bs t wid (m + 1) (ingD t wid D k at' key v) A w own w' := by
  obtain ⟨vt, vs, vl, C, PK, g⟩ := hx
  obtain ⟨gs, cs, rfl⟩ := g.src
  obtain ⟨c, d, hc, hd, rep, nb⟩ := g.at k hk
  have h8 := g.T.le
  have w0 := g.wid0
  have w1' := g.wid1
  have q0 : 0 ≤ at' / wid := Int.ediv_nonneg (by omega) (by omega)
  have q1 : at' / wid < 20 := Int.ediv_lt_of_lt_mul (by omega) (by omega)
  obtain ⟨qn, hqn⟩ : ∃ qn : Nat, at' / wid = qn := ⟨(at' / wid).toNat, by omega⟩
  have qb : qn < 20 := by omega
  have hdv : Int.tdiv at' wid = (qn : Int) := by rw [Int.tdiv_eq_ediv_of_nonneg (by omega)]; exact hqn
  have hwz : (wid == 0) = false := by simp; omega
  have hso : Own clSrc w B0 87 (.slice (some ⟨gs, 0, none⟩) t.length cs) C := g.so
  have tgs : own gs = .wd 1 := g.ts gs rfl
  have hgsw : gs < w.heap.size := (hso.lt gs rfl).2
  have c0 : w.cell? ⟨bk, 0, none⟩ = some (.pointer (some ⟨bs, 0, none⟩)) := by rw [cell_of_row _ _ _ _ _ _ g.run]; rfl
  have c2 : w.cell? ⟨bk, 2, none⟩ = some (.int .i64 wid) := by rw [cell_of_row _ _ _ _ _ _ g.run]; rfl
  obtain ⟨N, hN⟩ : ∃ N, t.length = N := ⟨_, rfl⟩
  have HN : Hid (t.length = N) := hN
  have c3 : w.cell? ⟨bk, 3, none⟩ = some (.slice (some ⟨gs, 0, none⟩) N cs) := by rw [cell_of_row _ _ _ _ _ _ g.run, ← hN]; rfl
  have cq : w.cell? ⟨gs, k * 82 + 40 + qn, none⟩ = some (.bool (d.lcl qn)) := by
    rw [Nat.add_assoc, ← rep.cl qn qb]
    exact hso.cell_at k c hc (40 + qn) _ (by show c.cells[40 + qn]? = _; rw [c.get _ (by omega), c.at_cl qn qb])
  have hlv : wrg t k = 0 := by unfold wrg; rw [if_pos (by simp [isNd]; omega), if_pos hlf]
  obtain ⟨fb, hfb⟩ : ∃ fb, d.lcl qn = fb := ⟨_, rfl⟩
  rw [hfb] at cq
  have k0 : (0 : Int) ≤ (k : Int) := by omega
  have k1 : (k : Int) < (N : Int) := by omega
  have HG : Hid (KD SR w own B0 bk bs t wid m D vt ⟨some ⟨gs, 0, none⟩, t.length, cs⟩ vl C PK A) := g
  have HR : Hid (PR SR) := R
  have HQ : Hid (PL SR) := Q
  have hks' : key.size ≤ maxLen := by simp only [maxLen]; omega
  cases fb with
  | true =>
    have HE : Hid (ingE t wid D k at' key = 7) := by unfold Hid ingE; rw [if_pos hlv, if_neg (by omega), if_neg (by omega), if_pos (by simp [hd, hqn, hfb])]
    have HD : Hid (ingD t wid D k at' key v = D) := by unfold Hid ingD; rw [if_neg (by rw [HE.out]; decide)]
    clear g R Q rep nb hd hc hso hqn q0 q1 hfb hN
    go_enter Try.func34, Try.ntmps34
    go_wp2_with (go_at_call 42; refine (HQ.out.ingest w own B0 bs t wid D HG.out.st (HG.out.di.mono' (by omega)) HG.out.b0 k at' key v ⟨by omega, by omega⟩ ⟨by omega, by omega⟩ hks' v0 v1).mono ?_; rintro e w2 ⟨rfl, own2, hst, hsm, hfr⟩; rw [HE.out]; rw [HD.out] at hst; have HZ : Hid (SR w2 own2 B0 bs t wid D ∧ Same w own own2 ∧ Fr own isSt w w2) := ⟨hst, hsm, hfr⟩; replace c0 := cell_st hfr c0 (.inl HG.out.gm); replace c2 := cell_st hfr c2 (.inl HG.out.gm); replace c3 := cell_st hfr c3 (.inl HG.out.gm); replace cq := cell_st hfr cq (.inr ⟨1, tgs⟩); clear hst hsm hfr)
    go_ret
    exact ⟨rfl, KN.tt HD.out ⟨own2, ⟨_, _, _, C, PK, (HG.out.stay HZ.out.1 HZ.out.2.1 HZ.out.2.2).mono (by omega)⟩, HZ.out.2.1, HZ.out.2.2.mono fun _ ⟨i, e⟩ => by rw [e]; simp [notA]⟩⟩
  | false =>
    have HE : Hid (ingE t wid D k at' key = 0) := by unfold Hid ingE; rw [if_pos hlv, if_neg (by omega), if_neg (by omega), if_neg (by simp [hd, hqn, hfb])]
    have HD : Hid (ingD t wid D k at' key v = D.set k { d with lev := d.lev ++ [⟨qn, key, v⟩] }) := by unfold Hid ingD; rw [if_pos HE.out]; simp [hd, hqn]
    have HI : Hid (Inv t (D.set k { d with lev := d.lev ++ [⟨qn, key, v⟩] }) A) := by unfold Hid; rw [← HD.out]; exact inv_ingest g.inv w0 k at' key v
    have HCD : Hid (C[k]? = some c ∧ D[k]? = some d) := ⟨hc, hd⟩
    have HEV : Hid (Own clE w B0 110 (.slice (c.ev qn).p (c.ev qn).n (c.ev qn).c) ((evK d.lev qn).map evOf)) := rep.ev qn qb
    have HTE : Hid (∀ j, (Value.slice (c.ev qn).p (c.ev qn).n (c.ev qn).c).ownBlock = some j → own j = .wd (2 + 20 * k + qn)) := rep.te qn qb
    have cev : w.cell? ⟨gs, k * 82 + qn, none⟩ = some (.slice (c.ev qn).p (c.ev qn).n (c.ev qn).c) := hso.cell_at k c hc qn _ (by show c.cells[qn]? = _; rw [c.get _ (by omega), c.at_ev qn qb])
    have HBK : Hid (∃ cur, w.heap[gs]? = some (.cells cur 87)) := hso.blk
    have hlen : (evK d.lev qn).length ≤ m := Nat.le_trans (evK_len _ _) (g.di k d hd).1
    have hbk : bk < w.heap.size := lt_of_blk g.run
    have HGM : Hid (own bk = .gm) := g.gm
    have hbg : bk ≠ gs := fun e => by have := g.gm; rw [e, tgs] at this; simp at this
    obtain ⟨⟨ep, en, ec⟩, hsl⟩ : ∃ s, s = c.ev qn := ⟨_, rfl⟩
    rw [← hsl] at HEV HTE cev
    replace cev : w.cell? ⟨gs, k * 82 + qn, none⟩ = some (.slice ep en ec) := cev
    have HEV' : Hid (Own clE w B0 110 (.slice ep en ec) ((evK d.lev qn).map evOf)) := HEV
    have HTE' : Hid (∀ j, (Value.slice ep en ec).ownBlock = some j → own j = .wd (2 + 20 * k + qn)) := HTE
    have HSL : Hid ((⟨ep, en, ec⟩ : Sl) = c.ev qn) := hsl
    clear g R Q rep nb hd hc hso hqn q0 q1 hfb hN HEV HTE hsl
    go_enter Try.func34, Try.ntmps34
    go_upto_region 5 with (go_at_call 42; refine (HQ.out.ingest w own B0 bs t wid D HG.out.st (HG.out.di.mono' (by omega)) HG.out.b0 k at' key v ⟨by omega, by omega⟩ ⟨by omega, by omega⟩ hks' v0 v1).mono ?_; rintro e w2 ⟨rfl, own2, hst, hsm, hfr⟩; rw [HE.out]; rw [HD.out] at hst; have HZ : Hid (SR w2 own2 B0 bs t wid (D.set k { d with lev := d.lev ++ [⟨qn, key, v⟩] }) ∧ Same w own own2 ∧ Fr own isSt w w2) := ⟨hst, hsm, hfr⟩; replace c0 := cell_st hfr c0 (.inl HG.out.gm); replace c2 := cell_st hfr c2 (.inl HG.out.gm); replace c3 := cell_st hfr c3 (.inl HG.out.gm); replace cq := cell_st hfr cq (.inr ⟨1, tgs⟩); replace cev := cell_st hfr cev (.inr ⟨1, tgs⟩); clear hst hsm hfr)
    rename World => w2
    have hs12 := HZ.out.2.2.size
    have HEV2 : Hid (Own clE w2 B0 110 (.slice ep en ec) ((evK d.lev qn).map evOf)) := HEV'.out.fr HZ.out.2.2 (t := .wd (2 + 20 * k + qn)) HTE'.out (by simp) (by rintro ⟨i, e⟩; simp at e)
    have HND : Hid (∃ cur, w2.heap[gs]? = some (.cells cur 87)) := by
      obtain ⟨cur, hcur⟩ := HBK.out
      exact ⟨cur, by rw [HZ.out.2.2.block gs hgsw (by rw [tgs]; simp) (by rw [tgs]; rintro ⟨i, e⟩; simp at e)]; exact hcur⟩
    have nbk : (Value.slice ep en ec).ownBlock ≠ some bk := fun e => by have := HTE'.out bk e; rw [HGM.out] at this; simp at this
    have ngs : (Value.slice ep en ec).ownBlock ≠ some gs := fun e => by have := HTE'.out gs e; rw [tgs] at this; simp at this; omega
    have hb02 : B0 ≤ w2.heap.size := Nat.le_trans HG.out.b0 hs12
    clear c0 c2 cq
    have hT0 : (fun w' : World => w'.cell? ⟨bk, 3, none⟩ = some (.slice (some ⟨gs, 0, none⟩) N cs)) w2.drew := c3
    have q00 : (0 : Int) ≤ (qn : Int) := by omega
    have q20 : (qn : Int) < 20 := by omega
    refine wp_region_held (S := fun w' : World => w'.cell? ⟨bk, 3, none⟩ = some (.slice (some ⟨gs, 0, none⟩) N cs)) mixed ?_
    refine wpAnyH_take (i := 0) (v := (.pointer (some ⟨bk, 0, none⟩))) rfl (by kernel_rfl) (by kernel_rfl) (by kernel_rfl) (fun _ _ _ h => h) (Or.inl ⟨by rfl, fun wx hx => by go_simp⟩) hT0 ?_
    try dsimp only
    try simp only [Act.put, List.getElem_toArray, List.getElem_cons_succ, List.getElem_cons_zero, List.setIfInBounds_toArray, List.set_cons_zero, List.set_cons_succ]
    refine wpAnyH_take (i := 1) (v := (.pointer (some ⟨bk, 0, none⟩))) rfl (by kernel_rfl) (by kernel_rfl) (by kernel_rfl) (fun _ _ _ h => h) (Or.inl ⟨by rfl, fun wx hx => by go_simp⟩) hT0 ?_
    try dsimp only
    try simp only [Act.put, List.getElem_toArray, List.getElem_cons_succ, List.getElem_cons_zero, List.setIfInBounds_toArray, List.set_cons_zero, List.set_cons_succ]
    refine wpAnyH_take (i := 2) (v := (.pointer (some ⟨bk, 3, none⟩))) rfl (by kernel_rfl) (by kernel_rfl) (by kernel_rfl) (fun _ _ _ h => h) (Or.inl ⟨by rfl, fun wx hx => by go_simp⟩) hT0 ?_
    try dsimp only
    try simp only [Act.put, List.getElem_toArray, List.getElem_cons_succ, List.getElem_cons_zero, List.setIfInBounds_toArray, List.set_cons_zero, List.set_cons_succ]
    refine wpAnyH_take (i := 3) (v := (.slice (some ⟨gs, 0, none⟩) N cs)) rfl (by kernel_rfl) (by kernel_rfl) (by kernel_rfl) (fun _ _ _ h => h) (Or.inl ⟨by rfl, fun wx hx => by have hx1 := hx; go_simp⟩) hT0 ?_
    try dsimp only
    try simp only [Act.put, List.getElem_toArray, List.getElem_cons_succ, List.getElem_cons_zero, List.setIfInBounds_toArray, List.set_cons_zero, List.set_cons_succ]
    refine wpAnyH_take (i := 4) (v := (.int .i64 k)) rfl (by kernel_rfl) (by kernel_rfl) (by kernel_rfl) (fun _ _ _ h => h) (Or.inl ⟨by rfl, fun wx hx => by go_simp⟩) hT0 ?_
    try dsimp only
    try simp only [Act.put, List.getElem_toArray, List.getElem_cons_succ, List.getElem_cons_zero, List.setIfInBounds_toArray, List.set_cons_zero, List.set_cons_succ]
    refine wpAnyH_take (i := 5) (v := (.int .i64 qn)) rfl (by kernel_rfl) (by kernel_rfl) (by kernel_rfl) (fun _ _ _ h => h) (Or.inl ⟨by rfl, fun wx hx => by go_simp⟩) hT0 ?_
    try dsimp only
    try simp only [Act.put, List.getElem_toArray, List.getElem_cons_succ, List.getElem_cons_zero, List.setIfInBounds_toArray, List.set_cons_zero, List.set_cons_succ]
    refine wpAnyH_take (i := 6) (v := (.pointer (some ⟨bk, 0, none⟩))) rfl (by kernel_rfl) (by kernel_rfl) (by kernel_rfl) (fun _ _ _ h => h) (Or.inl ⟨by rfl, fun wx hx => by go_simp⟩) hT0 ?_
    try dsimp only
    try simp only [Act.put, List.getElem_toArray, List.getElem_cons_succ, List.getElem_cons_zero, List.setIfInBounds_toArray, List.set_cons_zero, List.set_cons_succ]
    refine wpAnyH_take (i := 7) (v := (.pointer (some ⟨bk, 0, none⟩))) rfl (by kernel_rfl) (by kernel_rfl) (by kernel_rfl) (fun _ _ _ h => h) (Or.inl ⟨by rfl, fun wx hx => by go_simp⟩) hT0 ?_
    try dsimp only
    try simp only [Act.put, List.getElem_toArray, List.getElem_cons_succ, List.getElem_cons_zero, List.setIfInBounds_toArray, List.set_cons_zero, List.set_cons_succ]
    refine wpAnyH_take (i := 8) (v := (.pointer (some ⟨bk, 3, none⟩))) rfl (by kernel_rfl) (by kernel_rfl) (by kernel_rfl) (fun _ _ _ h => h) (Or.inl ⟨by rfl, fun wx hx => by go_simp⟩) hT0 ?_
    try dsimp only
    try simp only [Act.put, List.getElem_toArray, List.getElem_cons_succ, List.getElem_cons_zero, List.setIfInBounds_toArray, List.set_cons_zero, List.set_cons_succ]
    refine wpAnyH_take (i := 9) (v := (.slice (some ⟨gs, 0, none⟩) N cs)) rfl (by kernel_rfl) (by kernel_rfl) (by kernel_rfl) (fun _ _ _ h => h) (Or.inl ⟨by rfl, fun wx hx => by have hx1 := hx; go_simp⟩) hT0 ?_
    try dsimp only
    try simp only [Act.put, List.getElem_toArray, List.getElem_cons_succ, List.getElem_cons_zero, List.setIfInBounds_toArray, List.set_cons_zero, List.set_cons_succ]
    refine wpAnyH_take (i := 10) (v := (.int .i64 k)) rfl (by kernel_rfl) (by kernel_rfl) (by kernel_rfl) (fun _ _ _ h => h) (Or.inl ⟨by rfl, fun wx hx => by go_simp⟩) hT0 ?_
    try dsimp only
    try simp only [Act.put, List.getElem_toArray, List.getElem_cons_succ, List.getElem_cons_zero, List.setIfInBounds_toArray, List.set_cons_zero, List.set_cons_succ]
    refine wpAnyH_take (i := 11) (v := (.int .i64 qn)) rfl (by kernel_rfl) (by kernel_rfl) (by kernel_rfl) (fun _ _ _ h => h) (Or.inl ⟨by rfl, fun wx hx => by go_simp⟩) hT0 ?_
    try dsimp only
    try simp only [Act.put, List.getElem_toArray, List.getElem_cons_succ, List.getElem_cons_zero, List.setIfInBounds_toArray, List.set_cons_zero, List.set_cons_succ]
    refine wpAnyH_take (i := 12) (v := (.pointer (some ⟨gs, k * 82, none⟩))) rfl (by kernel_rfl) (by kernel_rfl) (by kernel_rfl) (fun _ _ _ h => h) (Or.inl ⟨by rfl, fun wx hx => by go_simp⟩) hT0 ?_
    try dsimp only
    try simp only [Act.put, List.getElem_toArray, List.getElem_cons_succ, List.getElem_cons_zero, List.setIfInBounds_toArray, List.set_cons_zero, List.set_cons_succ]
    refine wpAnyH_take (i := 13) (v := (.pointer (some ⟨gs, k * 82, none⟩))) rfl (by kernel_rfl) (by kernel_rfl) (by kernel_rfl) (fun _ _ _ h => h) (Or.inl ⟨by rfl, fun wx hx => by go_simp⟩) hT0 ?_
    try dsimp only
    try simp only [Act.put, List.getElem_toArray, List.getElem_cons_succ, List.getElem_cons_zero, List.setIfInBounds_toArray, List.set_cons_zero, List.set_cons_succ]
    refine wpAnyH_take (i := 14) (v := (.pointer (some ⟨gs, k * 82 + qn, none⟩))) rfl (by kernel_rfl) (by kernel_rfl) (by kernel_rfl) (fun _ _ _ h => h) (Or.inl ⟨by rfl, fun wx hx => by go_simp⟩) hT0 ?_
    try dsimp only
    try simp only [Act.put, List.getElem_toArray, List.getElem_cons_succ, List.getElem_cons_zero, List.setIfInBounds_toArray, List.set_cons_zero, List.set_cons_succ]
    refine wpAnyH_take (i := 16) (v := (.string key)) rfl (by kernel_rfl) (by kernel_rfl) (by kernel_rfl) (fun _ _ _ h => h) (Or.inl ⟨by rfl, fun wx hx => by go_simp⟩) hT0 ?_
    try dsimp only
    try simp only [Act.put, List.getElem_toArray, List.getElem_cons_succ, List.getElem_cons_zero, List.setIfInBounds_toArray, List.set_cons_zero, List.set_cons_succ]
    refine wpAnyH_take (i := 17) (v := (.int .i32 v)) rfl (by kernel_rfl) (by kernel_rfl) (by kernel_rfl) (fun _ _ _ h => h) (Or.inl ⟨by rfl, fun wx hx => by go_simp⟩) hT0 ?_
    try dsimp only
    try simp only [Act.put, List.getElem_toArray, List.getElem_cons_succ, List.getElem_cons_zero, List.setIfInBounds_toArray, List.set_cons_zero, List.set_cons_succ]
    refine wpAnyH_take (i := 18) (v := (.agg #[.string key, .int .i32 v])) rfl (by kernel_rfl) (by kernel_rfl) (by kernel_rfl) (fun _ _ _ h => h) (Or.inl ⟨by rfl, fun wx hx => by go_simp⟩) hT0 ?_
    try dsimp only
    try simp only [Act.put, List.getElem_toArray, List.getElem_cons_succ, List.getElem_cons_zero, List.setIfInBounds_toArray, List.set_cons_zero, List.set_cons_succ]
    refine wpAnyH_take (i := 21) (v := (.pointer (some ⟨gs, k * 82, none⟩))) rfl (by kernel_rfl) (by kernel_rfl) (by kernel_rfl) (fun _ _ _ h => h) (Or.inl ⟨by rfl, fun wx hx => by go_simp⟩) hT0 ?_
    try dsimp only
    try simp only [Act.put, List.getElem_toArray, List.getElem_cons_succ, List.getElem_cons_zero, List.setIfInBounds_toArray, List.set_cons_zero, List.set_cons_succ]
    refine wpAnyH_take (i := 22) (v := (.pointer (some ⟨gs, k * 82, none⟩))) rfl (by kernel_rfl) (by kernel_rfl) (by kernel_rfl) (fun _ _ _ h => h) (Or.inl ⟨by rfl, fun wx hx => by go_simp⟩) hT0 ?_
    try dsimp only
    try simp only [Act.put, List.getElem_toArray, List.getElem_cons_succ, List.getElem_cons_zero, List.setIfInBounds_toArray, List.set_cons_zero, List.set_cons_succ]
    refine wpAnyH_all (rs := [15, 19]) (by kernel_rfl) (by simp) ?_
    intro jj hjj
    simp only [List.mem_cons, List.not_mem_nil, or_false] at hjj
    rcases hjj with rfl | rfl
    · skip
      refine wpOp_of_wp rfl rfl (hideK ?_)
      intro K' hK'
      go_simp
      rw [hK'.out]
      refine ⟨hT0, ?_⟩
      try dsimp only
      try simp only [Act.put, List.getElem_toArray, List.getElem_cons_succ, List.getElem_cons_zero, List.setIfInBounds_toArray, List.set_cons_zero, List.set_cons_succ]
      refine wpAnyH_all (rs := [19]) (by kernel_rfl) (by simp) ?_
      intro jj hjj
      simp only [List.mem_cons, List.not_mem_nil, or_false] at hjj
      subst hjj
      refine wpOp_build1_e rfl rfl _ rfl ⟨key, v⟩ rfl ?_
      intro R1
      have hT1 : (fun w' : World => w'.cell? ⟨bk, 3, none⟩ = some (.slice (some ⟨gs, 0, none⟩) N cs)) (w2.drew.alloc (.cells (flat clE [(⟨key, v⟩ : Ev)]).toArray 110)) := cell_keep (below_alloc w2.drew _) c3
      refine ⟨hT1, ?_⟩
      try dsimp only
      try simp only [Act.put, List.getElem_toArray, List.getElem_cons_succ, List.getElem_cons_zero, List.setIfInBounds_toArray, List.set_cons_zero, List.set_cons_succ]
      refine wpAnyH_all (rs := [20]) (by kernel_rfl) (by simp) ?_
      intro jj hjj
      simp only [List.mem_cons, List.not_mem_nil, or_false] at hjj
      subst hjj
      refine wpOp_append_e rfl rfl _ _ rfl B0 _ _ rfl (by exact HEV2.out.below (below_drawn' (below_alloc w2.drew _))) _ 1 _ _ rfl rfl R1 (by omega) (by simp; omega) (by simp; omega) ?_
      intro vv w3 o3 g3 t3 f3
      obtain ⟨gn, cn, rfl⟩ := f3
      have hl1 : ((evK d.lev qn).map evOf ++ [(⟨key, v⟩ : Ev)]).length = (evK d.lev qn).length + 1 := by simp
      rw [hl1] at o3 t3 ⊢
      have e3 : ∀ j, j < w2.heap.size → (Value.slice ep en ec).ownBlock ≠ some j → w3.heap[j]? = w2.heap[j]? := fun j hj hne => by rw [g3.block j (by simp; omega) (fun e => hne e.symm)]; exact Below.heap_alloc w2.drew _ j hj
      have hT2 : (fun w' : World => w'.cell? ⟨bk, 3, none⟩ = some (.slice (some ⟨gs, 0, none⟩) N cs)) w3 := by show w3.cell? _ = _; rw [World.cell?_of_block (w := w2) (e3 bk (by omega) nbk)]; exact c3
      refine ⟨hT2, ?_⟩
      try dsimp only
      try simp only [Act.put, List.getElem_toArray, List.getElem_cons_succ, List.getElem_cons_zero, List.setIfInBounds_toArray, List.set_cons_zero, List.set_cons_succ]
      refine wpAnyH_take (i := 23) (v := (.pointer (some ⟨gs, k * 82 + qn, none⟩))) rfl (by kernel_rfl) (by kernel_rfl) (by kernel_rfl) (fun _ _ _ h => h) (Or.inl ⟨by rfl, fun wx hx => by go_simp⟩) hT2 ?_
      try dsimp only
      try simp only [Act.put, List.getElem_toArray, List.getElem_cons_succ, List.getElem_cons_zero, List.setIfInBounds_toArray, List.set_cons_zero, List.set_cons_succ]
      refine wpAnyH_all (rs := [24]) (by kernel_rfl) (by simp) ?_
      intro jj hjj
      simp only [List.mem_cons, List.not_mem_nil, or_false] at hjj
      subst hjj
      have cx : w3.cell? ⟨gs, k * 82 + qn, none⟩ = some (.slice ep en ec) := by rw [World.cell?_of_block (w := w2) (e3 gs (by omega) ngs)]; exact cev
      have fx : w3.frozen? ⟨gs, k * 82 + qn, none⟩ = false := by obtain ⟨cur, hcur⟩ := HND.out; exact frozen_of_row _ _ _ _ _ ((e3 gs (by omega) ngs).trans hcur)
      have hT3 : (fun w' : World => w'.cell? ⟨bk, 3, none⟩ = some (.slice (some ⟨gs, 0, none⟩) N cs)) (w3.setCell ⟨gs, k * 82 + qn, none⟩ (.slice (some ⟨gn, 0, none⟩) ((evK d.lev qn).length + 1) cn)) := cell_set hbg hT2
      refine wpOp_of_wp rfl rfl (hideK ?_)
      intro K' hK'
      go_simp
      rw [hK'.out]
      refine ⟨hT3, ?_⟩
      try dsimp only
      try simp only [Act.put, List.getElem_toArray, List.getElem_cons_succ, List.getElem_cons_zero, List.setIfInBounds_toArray, List.set_cons_zero, List.set_cons_succ]
      refine wpAnyH_done (by kernel_rfl) ?_ _
      have Z : Hid (KN SR B0 bk bs t wid (m + 1) (ingD t wid D k at' key v) A w own (w3.setCell ⟨gs, k * 82 + qn, none⟩ (.slice (some ⟨gn, 0, none⟩) ((evK d.lev qn).length + 1) cn))) := by
        have key20 : key.size ≤ maxLen := hks'
        exact KN.tt HD.out <| king_done HR.out HG.out k qn c d HCD.out.1 HCD.out.2 qb ⟨qn, key, v⟩ rfl ⟨q00, q20, key20, v0, v1⟩ HZ.out.1 HZ.out.2.1 HZ.out.2.2 HI.out (below_drawn' (below_alloc w2.drew _)) ⟨some ⟨gn, 0, none⟩, (evK d.lev qn).length + 1, cn⟩ o3 (by rw [← HSL.out]; exact g3) (by rw [← HSL.out]; exact t3)
      clear hT0 hT1 hT2 hT3 o3 g3 t3 e3 cx fx R1 hl1
      go_wp2
      go_ret
      exact ⟨rfl, Z.out⟩
    · skip
      refine wpOp_build1_e rfl rfl _ rfl ⟨key, v⟩ rfl ?_
      intro R1
      have hT1 : (fun w' : World => w'.cell? ⟨bk, 3, none⟩ = some (.slice (some ⟨gs, 0, none⟩) N cs)) (w2.drew.alloc (.cells (flat clE [(⟨key, v⟩ : Ev)]).toArray 110)) := cell_keep (below_alloc w2.drew _) c3
      refine ⟨hT1, ?_⟩
      try dsimp only
      try simp only [Act.put, List.getElem_toArray, List.getElem_cons_succ, List.getElem_cons_zero, List.setIfInBounds_toArray, List.set_cons_zero, List.set_cons_succ]
      have cev' : (w2.alloc (.cells (flat clE [(⟨key, v⟩ : Ev)]).toArray 110)).cell? ⟨gs, k * 82 + qn, none⟩ = some (.slice ep en ec) := cell_keep (below_alloc w2 _) cev
      refine wpAnyH_all (rs := [15]) (by kernel_rfl) (by simp) ?_
      intro jj hjj
      simp only [List.mem_cons, List.not_mem_nil, or_false] at hjj
      subst hjj
      refine wpOp_of_wp rfl rfl (hideK ?_)
      intro K' hK'
      go_simp
      rw [hK'.out]
      refine ⟨hT1, ?_⟩
      try dsimp only
      try simp only [Act.put, List.getElem_toArray, List.getElem_cons_succ, List.getElem_cons_zero, List.setIfInBounds_toArray, List.set_cons_zero, List.set_cons_succ]
      clear cev'
      refine wpAnyH_all (rs := [20]) (by kernel_rfl) (by simp) ?_
      intro jj hjj
      simp only [List.mem_cons, List.not_mem_nil, or_false] at hjj
      subst hjj
      refine wpOp_append_e rfl rfl _ _ rfl B0 _ _ rfl (by exact HEV2.out.below (below_drawn' (below_alloc w2.drew _))) _ 1 _ _ rfl rfl R1 (by omega) (by simp; omega) (by simp; omega) ?_
      intro vv w3 o3 g3 t3 f3
      obtain ⟨gn, cn, rfl⟩ := f3
      have hl1 : ((evK d.lev qn).map evOf ++ [(⟨key, v⟩ : Ev)]).length = (evK d.lev qn).length + 1 := by simp
      rw [hl1] at o3 t3 ⊢
      have e3 : ∀ j, j < w2.heap.size → (Value.slice ep en ec).ownBlock ≠ some j → w3.heap[j]? = w2.heap[j]? := fun j hj hne => by rw [g3.block j (by simp; omega) (fun e => hne e.symm)]; exact Below.heap_alloc w2.drew _ j hj
      have hT2 : (fun w' : World => w'.cell? ⟨bk, 3, none⟩ = some (.slice (some ⟨gs, 0, none⟩) N cs)) w3 := by show w3.cell? _ = _; rw [World.cell?_of_block (w := w2) (e3 bk (by omega) nbk)]; exact c3
      refine ⟨hT2, ?_⟩
      try dsimp only
      try simp only [Act.put, List.getElem_toArray, List.getElem_cons_succ, List.getElem_cons_zero, List.setIfInBounds_toArray, List.set_cons_zero, List.set_cons_succ]
      refine wpAnyH_take (i := 23) (v := (.pointer (some ⟨gs, k * 82 + qn, none⟩))) rfl (by kernel_rfl) (by kernel_rfl) (by kernel_rfl) (fun _ _ _ h => h) (Or.inl ⟨by rfl, fun wx hx => by go_simp⟩) hT2 ?_
      try dsimp only
      try simp only [Act.put, List.getElem_toArray, List.getElem_cons_succ, List.getElem_cons_zero, List.setIfInBounds_toArray, List.set_cons_zero, List.set_cons_succ]
      refine wpAnyH_all (rs := [24]) (by kernel_rfl) (by simp) ?_
      intro jj hjj
      simp only [List.mem_cons, List.not_mem_nil, or_false] at hjj
      subst hjj
      have cx : w3.cell? ⟨gs, k * 82 + qn, none⟩ = some (.slice ep en ec) := by rw [World.cell?_of_block (w := w2) (e3 gs (by omega) ngs)]; exact cev
      have fx : w3.frozen? ⟨gs, k * 82 + qn, none⟩ = false := by obtain ⟨cur, hcur⟩ := HND.out; exact frozen_of_row _ _ _ _ _ ((e3 gs (by omega) ngs).trans hcur)
      have hT3 : (fun w' : World => w'.cell? ⟨bk, 3, none⟩ = some (.slice (some ⟨gs, 0, none⟩) N cs)) (w3.setCell ⟨gs, k * 82 + qn, none⟩ (.slice (some ⟨gn, 0, none⟩) ((evK d.lev qn).length + 1) cn)) := cell_set hbg hT2
      refine wpOp_of_wp rfl rfl (hideK ?_)
      intro K' hK'
      go_simp
      rw [hK'.out]
      refine ⟨hT3, ?_⟩
      try dsimp only
      try simp only [Act.put, List.getElem_toArray, List.getElem_cons_succ, List.getElem_cons_zero, List.setIfInBounds_toArray, List.set_cons_zero, List.set_cons_succ]
      refine wpAnyH_done (by kernel_rfl) ?_ _
      have Z : Hid (KN SR B0 bk bs t wid (m + 1) (ingD t wid D k at' key v) A w own (w3.setCell ⟨gs, k * 82 + qn, none⟩ (.slice (some ⟨gn, 0, none⟩) ((evK d.lev qn).length + 1) cn))) := by
        have key20 : key.size ≤ maxLen := hks'
        exact KN.tt HD.out <| king_done HR.out HG.out k qn c d HCD.out.1 HCD.out.2 qb ⟨qn, key, v⟩ rfl ⟨q00, q20, key20, v0, v1⟩ HZ.out.1 HZ.out.2.1 HZ.out.2.2 HI.out (below_drawn' (below_alloc w2.drew _)) ⟨some ⟨gn, 0, none⟩, (evK d.lev qn).length + 1, cn⟩ o3 (by rw [← HSL.out]; exact g3) (by rw [← HSL.out]; exact t3)
      clear hT0 hT1 hT2 hT3 o3 g3 t3 e3 cx fx R1 hl1
      go_wp2
      go_ret
      exact ⟨rfl, Z.out⟩
end Go.Proofs.Ytpglbakcjihohab
