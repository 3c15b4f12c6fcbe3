/-
  Own texts, laid together: 'untouchedItems' and 'blotItems', and the same three for lists of numbers. Lists of numbers that are handed in, with spare room: 'roomy', 'untouched', 'blot'; IsTree, IsWidth, num, pick. The book of lists that came out: 'marked', 'reads'. Whose block is whose; the book: 'reads', 'keep'. 'keep': a list that came out is marked, and so are three longer ones made of it; all are kept in the book. 'keep': the walk. The tree: what is a tree, a node, a leaf, what is under what; the document's isNode, isLeaf, under, wrong, isRange, ahead, newer, IsTree, IsWidth, for every tree and number. The document's store as plain things: events, leaves, nodes; what a leaf knows; their cells. Laws for items inside a region whose order is open; single fields of an item written over. 'known': a leaf's items, for every leaf's state. The document's store in memory: its blocks, whose they are, and what stands in them.
-/
import Derived.Test.YtpglbakcjihohaaGreatRows
import Derived.OrdersHeld
import Derived.Deep.DeepCutAuto
import Derived.Test.YtpglbakcjihohaaGreatPart1
set_option linter.unusedSimpArgs false
set_option linter.unusedVariables false
set_option linter.deprecated false
/-! 'untouchedItems' and 'blotItems', and the same three for lists of numbers. -/
namespace Go.Proofs.YtpglbakcjihohaaGreat
open Go.RowKit
set_option maxRecDepth 100000

theorem roomed_get (l : List It) (i : Nat) (hi : i < l.length + 8) : (roomed l 8)[i]? = some (if h : i < l.length then l[i] else spareIt) := by
  unfold roomed
  by_cases h : i < l.length
  · rw [dif_pos h]; simp [List.getElem?_append, h]
  · rw [dif_neg h]; simp only [Nat.sub_self, List.replicate_zero, List.append_nil]; rw [List.getElem?_append_right (by omega), List.getElem?_replicate, if_pos (by omega)]
theorem Own.range {w : World} {base : Nat} {e : TypeId} {g n cap : Nat} {l : List It} (h : Own clIt w base e (.slice (some ⟨g, 0, none⟩) n cap) l) (k : Nat) (x : It) (hx : l[k]? = some x) : w.rangeAt g (k * 32) x.cells := by
  obtain ⟨p, c, hv, _, _, hr⟩ := h.form
  cases hv
  rcases hr with rfl | ⟨b, off, e, _, hc⟩
  · simp at hx
  · cases e; have := hc k x hx; rw [Nat.zero_add] at this; exact this
set_option maxHeartbeats 1000000 in
theorem untouchedItems_any (l : List It) (hok : AllOkI l) (p q : Option Addr) (n c base : Nat) (w : World) (hn : l.length = n) (hp : Roomy w base p l) (hq : RowsAt clIt w q l) (hm : n ≤ 1000000000) :
    Calls Tryz.prog 62 #[.slice p n (n + 8), .slice q n c] w fun e w' => e = .returned (.bool true) ∧ Below w.heap.size w w' := by
  have e1 : IntKind.i64.wrap ((n : Int) + 8) = (n : Int) + 8 := IntWalk.i64_in _ ⟨by omega, by omega⟩
  obtain ⟨g, rfl, hown⟩ := hp
  have hgl := (hown.lt g rfl).2
  go_enter Tryz.func62, Tryz.ntmps62
  go_wp2
  go_loopw [7] (fun i wr => ∃ k : Nat, k ≤ n + 8 ∧ i = .int .i64 k ∧ Below w.heap.size w wr) (fun i _ => n + 8 - (intOf i).toNat)
  case atStart => exact ⟨0, by omega, rfl, Below.refl _ _⟩
  case round =>
    obtain ⟨k, hk, rfl, hB⟩ := hrel
    by_cases hlk : k < n + 8
    · obtain ⟨x, hx⟩ : ∃ x, (roomed l 8)[k]? = some x := ⟨_, roomed_get l k (by omega)⟩
      have r1 := range_below hB hgl (hown.range k x hx)
      obtain ⟨A, hA⟩ : ∃ A, IsIt A x := ⟨_, isIt_of x⟩
      by_cases hlt : k < n
      · obtain ⟨b', off', rfl, hlt', hc'⟩ := hq.pos k (by omega)
        have hx' : l[k]? = some x := by rw [roomed_get l k (by omega), dif_pos (by omega)] at hx; rw [← hx]; exact List.getElem?_eq_getElem (by omega)
        have r2 := range_below hB hlt' (hc' k x hx')
        have okx := hok k x hx'
        go_wp2_with (first | (refine alloc_it rfl rfl ?_; intro Z hZ) | (refine build_it rfl _ rfl spareIt (by kernel_rfl) ?_; intro M hM) | (refine store_it_new rfl _ _ rfl M _ _ rfl rfl (by simp) hM (by assumption) ?_) | (refine load_it_mid rfl _ rfl _ _ rfl x (by exact World.rangeAt_alloc r2 _) ?_; intro A hA) | (refine store_it_new rfl _ _ rfl A _ _ rfl rfl (by simp) hA hM ?_))
        refine wp_region_still_lit mixed (by kernel_rfl) ?_
        repeat still_step
        refine still_load_it_mid (by rfl) _ rfl _ _ (by exact rfl) A x hA (by exact World.rangeAt_alloc r1 _) ?_
        refine still_load_it (by rfl) _ rfl _ rfl A x hA (by exact heap_alloc_new _ _) ?_
        refine still_neq_it (by rfl) _ _ _ rfl A x hA okx rfl rfl ?_
        refine wpStill_nil ?_
        go_wp2
        go_roundw
        case rel => exact ⟨k + 1, by omega, by go_num, below_drawn (bnext hB (below_alloc _ _)) _⟩
        case measure => simp [intOf]; omega
      · have hx' : x = spareIt := by rw [roomed_get l k (by omega), dif_neg (by omega)] at hx; exact (Option.some.inj hx).symm
        subst hx'
        go_wp2_with (first | (refine alloc_it rfl rfl ?_; intro Z hZ) | (refine build_it rfl _ rfl spareIt (by kernel_rfl) ?_; intro M hM) | (refine store_it_new rfl _ _ rfl M _ _ rfl rfl (by simp) hM (by assumption) ?_))
        refine wp_region_still_lit mixed (by kernel_rfl) ?_
        repeat still_step
        refine still_load_it_mid (by rfl) _ rfl _ _ (by exact rfl) M spareIt hM (by exact World.rangeAt_alloc r1 _) ?_
        refine still_load_it (by rfl) _ rfl _ rfl M _ hM (by exact heap_alloc_new _ _) ?_
        refine still_neq_it (by rfl) _ _ _ rfl M _ hM spare_ok rfl rfl ?_
        refine wpStill_nil ?_
        go_wp2
        go_roundw
        case rel => exact ⟨k + 1, by omega, by go_num, below_drawn (bnext hB (below_alloc _ _)) _⟩
        case measure => simp [intOf]; omega
    · obtain rfl : k = n + 8 := by omega
      go_wp2
      go_ret
      exact ⟨rfl, hB⟩

set_option maxHeartbeats 1000000 in
/-- The list is its caller's own row: all of it is written over; nothing else changes. -/
theorem blotItems_any (l : List It) (g n cap base : Nat) (w : World) (hn : n ≤ l.length) (hown : Own clIt w base 114 (.slice (some ⟨g, 0, none⟩) l.length cap) l) (hm : n ≤ 1000000000) :
    Calls Tryz.prog 63 #[.slice (some ⟨g, 0, none⟩) n cap] w fun e w' => e = .returned (.tuple #[]) ∧ w.grownBy w' (some g) := by
  go_enter Tryz.func63, Tryz.ntmps63
  go_wp2
  go_loopw [2] (fun i wr => ∃ (k : Nat) (m : List It), k ≤ n ∧ i = .int .i64 k ∧ m.length = l.length ∧ Own clIt wr base 114 (.slice (some ⟨g, 0, none⟩) m.length cap) m ∧ w.grownBy wr (some g)) (fun i _ => n - (intOf i).toNat)
  case atStart => exact ⟨0, l, by omega, rfl, rfl, hown, ⟨rfl, rfl, rfl, Nat.le_refl _, fun _ _ _ => rfl⟩⟩
  case round =>
    clear hown
    obtain ⟨k, m, hk, rfl, hml, hown, hB⟩ := hrel
    by_cases hlk : k < n
    · go_wp2_with (first | (refine build_it rfl _ rfl overIt (by kernel_rfl) ?_; intro M hM) | (refine store_it_own rfl _ _ rfl _ k _ _ _ _ M overIt _ rfl rfl hM hown (by omega) (by omega) ?_; intro w3 ho3 hg3))
      go_roundw
      case rel => exact ⟨k + 1, m.set k overIt, by omega, by go_num, by simpa using hml, by simpa using ho3, ⟨hg3.os.trans hB.os, hg3.tape.trans hB.tape, hg3.output.trans hB.output, Nat.le_trans hB.size hg3.size, fun j hj hne => (hg3.block j (Nat.lt_of_lt_of_le hj hB.size) hne).trans (hB.block j hj hne)⟩⟩
      case measure => simp [intOf]; omega
    · obtain rfl : k = n := by omega
      go_wp2
      exact bodyPost_end (results_none rfl _ _ _) rfl ⟨rfl, hB⟩
end Go.Proofs.YtpglbakcjihohaaGreat

/-! Lists of numbers that are handed in, with spare room: 'roomy', 'untouched', 'blot'; IsTree, IsWidth, num, pick. -/
namespace Go.Proofs.YtpglbakcjihohaaGreat
open Go.RowKit
set_option maxRecDepth 100000

abbrev clInt : Cl Int := ⟨fun n => [.int .i64 n], 1, by decide, fun _ => rfl, fun _ v hv => by simp only [List.mem_singleton] at hv; subst hv; rfl⟩
theorem Int.clsize : clInt.size = 1 := rfl
theorem slInt : SlT Tryz.prog clInt 22 3 8 := ⟨Tryz.underlying22, by kernel_rfl⟩
theorem zeros_int : ((Tryz.prog.info? 3).bind (·.zero)).map (·.cells.toList) = some (clInt.cells (0 : Int)) := by kernel_rfl
theorem cells_int (x : Int) : clInt.cells x = [.int .i64 x] := rfl
theorem flat_ints (l : List Int) : flat clInt l = l.map (Value.int .i64) := by
  induction l with
  | nil => rfl
  | cons x l ih => rw [flat_cons, ih]; rfl
theorem lay_one (cur : Array Value) (k : Nat) (v : Value) (hk : k < cur.size) : lay cur k [v] = cur.setIfInBounds k v := by
  apply Array.ext_getElem?
  intro j
  by_cases e : j = k
  · subst e
    have := lay_get_in (cur := cur) (o := j) (A := [v]) (by simp; omega) (j := 0) (by simp)
    rw [Nat.add_zero] at this
    rw [this]; simp [hk]
  · rw [lay_get_out (by simp; omega) (by simp; omega), Array.getElem?_setIfInBounds_ne (by omega)]
/-- One number of an owned row: read, and written over. -/
theorem Own.int_at {w : World} {base : Nat} {e : TypeId} {g n cap : Nat} {l : List Int} (h : Own clInt w base e (.slice (some ⟨g, 0, none⟩) n cap) l) (k : Nat) (hk : k < l.length) :
    w.cell? ⟨g, k, none⟩ = some (.int .i64 l[k]) ∧ w.frozen? ⟨g, k, none⟩ = false ∧ ∀ x : Int, Own clInt (w.setCell ⟨g, k, none⟩ (.int .i64 x)) base e (.slice (some ⟨g, 0, none⟩) n cap) (l.set k x) := by
  obtain ⟨p, c, hv, _, _, hr⟩ := h.form
  cases hv
  rcases hr with rfl | ⟨b, off, e1, _, hc⟩
  · simp at hk
  · cases e1
    refine ⟨?_, ?_, fun x => ?_⟩
    · have := hc k l[k] (List.getElem?_eq_getElem hk) 0 (.int .i64 l[k]) rfl
      simpa [Int.clsize] using this
    · obtain ⟨cur, h1, _⟩ := h.set k 0 hk
      exact frozen_of_row _ _ _ _ _ h1
    · obtain ⟨cur, h1, h2, h3⟩ := h.set k x hk
      rw [Int.clsize, Nat.mul_one] at h2 h3
      refine h3.chg fun j hj => ?_
      obtain rfl : g = j := by simpa [Value.ownBlock] using hj
      rw [heap_setCell_same _ _ _ _ _ _ h1, setRow_heap w g cur _ e _ h1, cells_int, lay_one cur k _ (by omega)]
def roomedN (l : List Int) (k : Nat) : List Int := l ++ List.replicate k (-5) ++ List.replicate (8 - k) 0
theorem roomedN_len (l : List Int) (k : Nat) (hk : k ≤ 8) : (roomedN l k).length = l.length + 8 := by simp [roomedN]; omega
theorem roomedN_set (l : List Int) (k : Nat) (hk : k < 8) : (roomedN l k).set (l.length + k) (-5) = roomedN l (k + 1) := by
  unfold roomedN
  rw [List.append_assoc, List.set_append_right _ _ (by omega), List.set_append_right _ _ (by simp)]
  rw [show 8 - k = (8 - (k + 1)) + 1 by omega, List.replicate_succ, List.length_replicate, show l.length + k - l.length - k = 0 by omega, List.set_cons_zero, List.replicate_succ', List.append_assoc, List.append_assoc]
  rfl
theorem roomedN_get (l : List Int) (i : Nat) (hi : i < l.length + 8) : (roomedN l 8)[i]? = some (if h : i < l.length then l[i] else -5) := by
  unfold roomedN
  by_cases h : i < l.length
  · rw [dif_pos h]; simp [List.getElem?_append, h]
  · rw [dif_neg h]; simp only [Nat.sub_self, List.replicate_zero, List.append_nil]; rw [List.getElem?_append_right (by omega), List.getElem?_replicate, if_pos (by omega)]
def RoomyN (w : World) (base : Nat) (p : Option Addr) (l : List Int) : Prop := ∃ g, p = some ⟨g, 0, none⟩ ∧ Own clInt w base 3 (.slice p (l.length + 8) (l.length + 8)) (roomedN l 8)
set_option maxHeartbeats 1000000 in
theorem roomy_any (l : List Int) (p : Option Addr) (n c : Nat) (w : World) (hn : l.length = n) (hp : RowsAt clInt w p l) (hm : n ≤ 1000000000) :
    Calls Tryz.prog 13 #[.slice p n c] w fun e w' => ∃ q, e = .returned (.slice q n (n + 8)) ∧ RoomyN w' w.heap.size q l ∧ Below w.heap.size w w' := by
  have e1 : IntKind.i64.wrap ((n : Int) + 8) = (n : Int) + 8 := IntWalk.i64_in _ ⟨by omega, by omega⟩
  go_enter Tryz.func13, Tryz.ntmps13
  go_wp2_with (first | (refine wpList_make_cl rfl _ _ _ _ 8 slInt rfl 0 zeros_int w.heap.size (n + 8) _ rfl rfl (by omega) (by simp only [maxLen]; omega) (by omega) (Nat.le_refl _) ?_; intro w1 ho hg; have hb1 := grown_below hg w.heap.size (Nat.le_refl _) (fun _ h => by cases h); obtain ⟨w2, hr, ho2, hg2⟩ := run_copy_cl slInt 3 w1 _ _ _ _ _ ho (by simp) p n c l hn (hp.below hb1) (by omega)) | (at_builtin; refine wpList_copy rfl _ _ _ _ rfl _ _ rfl rfl (by exact hr) ?_))
  have hd : List.drop n (List.replicate (n + 8) (0 : Int)) = List.replicate 8 0 := by simp
  rw [hd] at ho2
  have hb2 := hb1.trans (grown_below hg2 _ hb1.size (fun k h => by cases h; omega))
  clear hg hg2 ho hr hd hb1
  go_loopw [5] (fun i wr => ∃ k : Nat, k ≤ 8 ∧ i = .int .i64 ((n + k : Nat) : Int) ∧ Own clInt wr w.heap.size 3 (.slice (some ⟨w.heap.size, 0, none⟩) (n + 8) (n + 8)) (roomedN l k) ∧ Below w.heap.size w wr) (fun i _ => n + 8 - (intOf i).toNat)
  case atStart => exact ⟨0, by omega, by simp, by simpa [roomedN] using ho2, hb2⟩
  case round =>
    clear ho2 hb2
    obtain ⟨k, hk, rfl, ho, hB⟩ := hrel
    have hl := roomedN_len l k hk
    by_cases hlk : k < 8
    · have hs := roomedN_set l k hlk
      rw [hn] at hs hl
      obtain ⟨c1, c2, c3⟩ := ho.int_at (n + k) (by omega)
      go_wp2
      go_roundw
      case rel => exact ⟨k + 1, by omega, by go_num, by rw [← hs]; exact c3 _, hB.setCell (Nat.le_refl _) _⟩
      case measure => simp [intOf]; omega
    · obtain rfl : k = 8 := by omega
      go_wp2
      go_ret
      exact ⟨_, rfl, ⟨_, rfl, by rw [hn]; exact ho⟩, hB⟩
theorem RowsAt.int_at {w w' : World} {q : Option Addr} {l : List Int} (h : RowsAt clInt w q l) (hB : Below w.heap.size w w') (k : Nat) (hk : k < l.length) : ∃ b off, q = some ⟨b, off, none⟩ ∧ b < w.heap.size ∧ w'.cell? ⟨b, off + k, none⟩ = some (.int .i64 l[k]) := by
  obtain ⟨b, off, rfl, hlt, hc⟩ := h.pos k hk
  refine ⟨b, off, rfl, hlt, ?_⟩
  have := range_below hB hlt (hc k l[k] (List.getElem?_eq_getElem hk)) 0 (.int .i64 l[k]) rfl
  simpa [Int.clsize] using this
set_option maxHeartbeats 1000000 in
theorem untouched_any (l : List Int) (p q : Option Addr) (n c base : Nat) (w : World) (hn : l.length = n) (hp : RoomyN w base p l) (hq : RowsAt clInt w q l) (hm : n ≤ 1000000000) :
    Calls Tryz.prog 15 #[.slice p n (n + 8), .slice q n c] w fun e w' => e = .returned (.bool true) ∧ Below w.heap.size w w' := by
  have e1 : IntKind.i64.wrap ((n : Int) + 8) = (n : Int) + 8 := IntWalk.i64_in _ ⟨by omega, by omega⟩
  obtain ⟨g, rfl, hown⟩ := hp
  have hgl := (hown.lt g rfl).2
  have hrl := roomedN_len l 8 (Nat.le_refl _)
  go_enter Tryz.func15, Tryz.ntmps15
  go_wp2
  go_loopw [7] (fun i wr => ∃ k : Nat, k ≤ n + 8 ∧ i = .int .i64 k ∧ Below w.heap.size w wr) (fun i _ => n + 8 - (intOf i).toNat)
  case atStart => exact ⟨0, by omega, rfl, Below.refl _ _⟩
  case round =>
    obtain ⟨k, hk, rfl, hB⟩ := hrel
    by_cases hlk : k < n + 8
    · obtain ⟨c1, _, _⟩ := hown.int_at k (by omega)
      have hx := roomedN_get l k (by omega)
      rw [List.getElem?_eq_getElem (by omega)] at hx
      obtain ⟨x, hx'⟩ : ∃ x, x = (roomedN l 8)[k]'(by omega) := ⟨_, rfl⟩
      rw [← hx'] at c1 hx
      clear hx'
      have d1 : wr.cell? ⟨g, k, none⟩ = some (.int .i64 x) := by rw [hB.cell (p := ⟨g, k, none⟩) hgl]; exact c1
      clear c1
      by_cases hlt : k < n
      · obtain ⟨b', off', rfl, hlt', d2⟩ := hq.int_at hB k (by omega)
        rw [dif_pos (by omega)] at hx
        rw [← Option.some.inj hx] at d2
        clear hx
        go_wp2
        go_roundw
        case rel => exact ⟨k + 1, by omega, by go_num, hB⟩
        case measure => simp [intOf]; omega
      · rw [dif_neg (by omega)] at hx
        obtain rfl := Option.some.inj hx
        clear hx
        go_wp2
        go_roundw
        case rel => exact ⟨k + 1, by omega, by go_num, hB⟩
        case measure => simp [intOf]; omega
    · obtain rfl : k = n + 8 := by omega
      go_wp2
      go_ret
      exact ⟨rfl, hB⟩
set_option maxHeartbeats 1000000 in
theorem blot_any (l : List Int) (g n cap base : Nat) (w : World) (hn : n ≤ l.length) (hown : Own clInt w base 3 (.slice (some ⟨g, 0, none⟩) l.length cap) l) (hm : n ≤ 1000000000) :
    Calls Tryz.prog 16 #[.slice (some ⟨g, 0, none⟩) n cap] w fun e w' => e = .returned (.tuple #[]) ∧ w.grownBy w' (some g) := by
  go_enter Tryz.func16, Tryz.ntmps16
  go_wp2
  go_loopw [2] (fun i wr => ∃ (k : Nat) (m : List Int), k ≤ n ∧ i = .int .i64 k ∧ m.length = l.length ∧ Own clInt wr base 3 (.slice (some ⟨g, 0, none⟩) m.length cap) m ∧ w.grownBy wr (some g)) (fun i _ => n - (intOf i).toNat)
  case atStart => exact ⟨0, l, by omega, rfl, rfl, hown, ⟨rfl, rfl, rfl, Nat.le_refl _, fun _ _ _ => rfl⟩⟩
  case round =>
    clear hown
    obtain ⟨k, m, hk, rfl, hml, hown, hB⟩ := hrel
    by_cases hlk : k < n
    · obtain ⟨c1, c2, c3⟩ := hown.int_at k (by omega)
      go_wp2
      go_roundw
      case rel => exact ⟨k + 1, m.set k (-7), by omega, by go_num, by simpa using hml, by simpa using c3 (-7), ⟨hB.os, hB.tape, hB.output, by simpa using hB.size, fun j hj hne => (heap_setCell_other _ _ _ _ (by show j ≠ g; intro e; exact hne (by rw [e]))).trans (hB.block j hj hne)⟩⟩
      case measure => simp [intOf]; omega
    · obtain rfl : k = n := by omega
      go_wp2
      exact bodyPost_end (results_none rfl _ _ _) rfl ⟨rfl, hB⟩
theorem num_any (x : Int) (w : World) (h : fitsI x) : Calls Tryz.prog 19 #[.int .i64 x] w fun e w' => e = .returned (.int .i64 x) ∧ w' = w := by
  obtain ⟨h0, h1⟩ := h
  have e1 : IntKind.i64.wrap x = x := IntWalk.i64_in _ ⟨by omega, by omega⟩
  go_enter Tryz.func19, Tryz.ntmps19
  go_wp2
  go_ret
  exact ⟨rfl, rfl⟩
end Go.Proofs.YtpglbakcjihohaaGreat

/-! The book of lists that came out: 'marked', 'reads'. -/
namespace Go.Proofs.YtpglbakcjihohaaGreat
open Go.RowKit
set_option maxRecDepth 100000

/-- A slice as a thing of one cell. -/
structure Sl where
  p : Option Addr
  n : Nat
  c : Nat
def Sl.val (s : Sl) : Value := .slice s.p s.n s.c
abbrev clSl : Cl Sl := ⟨fun s => [s.val], 1, by decide, fun _ => rfl, fun _ v hv => by simp only [List.mem_singleton] at hv; subst hv; rfl⟩
theorem Sl.clsize : clSl.size = 1 := rfl
theorem slSl : SlT Tryz.prog clSl 38 29 24 := ⟨Tryz.underlying38, by kernel_rfl⟩
theorem RowsAt.sl_at {w w' : World} {q : Option Addr} {l : List Sl} (h : RowsAt clSl w q l) (hB : Below w.heap.size w w') (k : Nat) (s : Sl) (hs : l[k]? = some s) : ∃ b off, q = some ⟨b, off, none⟩ ∧ b < w.heap.size ∧ w'.cell? ⟨b, off + k, none⟩ = some (.slice s.p s.n s.c) := by
  obtain ⟨b, off, rfl, hlt, hc⟩ := h.pos k (by obtain ⟨h, _⟩ := List.getElem?_eq_some_iff.1 hs; exact h)
  refine ⟨b, off, rfl, hlt, ?_⟩
  have := range_below hB hlt (hc k s hs) 0 s.val rfl
  simpa [Sl.clsize, Sl.val] using this
/-- In each list stand marks of its own alone. -/
def Marked (w : World) (L : List Sl) (each : Nat) : Prop := ∀ (k : Nat) (s : Sl), L[k]? = some s → s.n ≤ 1000000000 ∧ RowsAt clIt w s.p (List.replicate s.n (mk ((k / each : Nat) : Int)))
theorem cell_keep {w w' : World} {p : Addr} {v : Value} (hb : Below w.heap.size w w') (h : w.cell? p = some v) : w'.cell? p = some v := by
  rw [hb.cell (block_lt_of_cell h)]; exact h
set_option maxHeartbeats 2000000 in
theorem marked_any (L : List Sl) (p : Option Addr) (n c each : Nat) (w : World) (hn : L.length = n) (hp : RowsAt clSl w p L) (hm : n ≤ 1000000000) (he0 : 0 < each) (he1 : each ≤ 3) (hM : Marked w L each) (ei : Int) (hei : (each : Int) = ei) :
    Calls Tryz.prog 33 #[.slice p n c, .int .i64 ei] w fun e w' => e = .returned (.bool true) ∧ Below w.heap.size w w' := by
  subst hei
  go_enter Tryz.func33, Tryz.ntmps33
  go_wp2
  go_loopw [5] (fun i wr => ∃ k : Nat, k ≤ n ∧ i = .int .i64 k ∧ Below w.heap.size w wr) (fun i _ => n - (intOf i).toNat)
  case atStart => exact ⟨0, by omega, rfl, Below.refl _ _⟩
  case round =>
    obtain ⟨k, hk, rfl, hB⟩ := hrel
    by_cases hlk : k < n
    · obtain ⟨⟨q, m, c'⟩, hs⟩ : ∃ s, L[k]? = some s := ⟨_, List.getElem?_eq_getElem (by omega)⟩
      obtain ⟨b, off, rfl, hlt, d1⟩ := hp.sl_at hB k _ hs
      obtain ⟨hm1, hr⟩ := hM k _ hs
      have hq : Int.tdiv (k : Int) (each : Int) = ((k / each : Nat) : Int) := by rw [Int.tdiv_eq_ediv_of_nonneg (by omega)]; simp
      have hq2 : k / each ≤ 1000000000 := Nat.le_trans (Nat.div_le_self _ _) (by omega)
      obtain ⟨j, hj⟩ : ∃ j, j = k / each := ⟨_, rfl⟩
      rw [← hj] at hq hq2 hr
      clear hj
      go_wp2_with fail
      refine (mark_any j _ (by omega) (by omega)).mono ?_
      rintro e w1 ⟨M, rfl, hM1, hb1⟩
      replace hB := bnext hB hb1
      replace d1 := cell_keep hb1 d1
      clear hb1
      go_wp2_with (first | (refine alloc_it rfl rfl ?_; intro Z hZ) | (refine store_it_new rfl _ _ rfl M _ _ rfl rfl (by simp) hM1 (by assumption) ?_))
      go_loopw [7] (fun i wr => ∃ k2 : Nat, k2 ≤ m ∧ i = .int .i64 k2 ∧ Below w.heap.size w wr ∧ wr.heap[w1.heap.size]? = some (.cells M 114) ∧ wr.cell? ⟨b, off + k, none⟩ = some (.slice q m c')) (fun i _ => m - (intOf i).toNat)
      case atStart => exact ⟨0, by omega, rfl, bnext hB (below_alloc _ _), heap_alloc_new _ _, cell_keep (below_alloc _ _) d1⟩
      case round =>
        clear d1
        obtain ⟨k2, hk2, rfl, hB2, gM, d1⟩ := hrel
        by_cases hlk2 : k2 < m
        · obtain ⟨b', off', rfl, hlt', hc'⟩ := hr.pos k2 (by simpa using hlk2)
          have r1 := range_below hB2 hlt' (hc' k2 (mk j) (by rw [List.getElem?_replicate, if_pos hlk2]))
          have okx := mk_ok j (by omega) (by omega)
          go_wp2
          refine wp_region_still_lit mixed (by kernel_rfl) ?_
          repeat still_step
          refine still_load_it_mid (by rfl) _ rfl _ _ (by exact rfl) M _ hM1 (by exact r1) ?_
          refine still_load_it (by rfl) _ rfl _ rfl M _ hM1 (by exact gM) ?_
          refine still_neq_it (by rfl) _ _ _ rfl M _ hM1 okx rfl rfl ?_
          refine wpStill_nil ?_
          go_wp2
          go_roundw
          case rel => exact ⟨k2 + 1, by omega, by go_num, below_drawn hB2 _, gM, d1⟩
          case measure => simp [intOf]; omega
        · obtain rfl : k2 = m := by omega
          go_wp2
          go_roundw
          case rel => exact ⟨k + 1, by omega, by go_num, hB2⟩
          case measure => simp [intOf]; omega
    · obtain rfl : k = n := by omega
      go_wp2
      go_ret
      exact ⟨rfl, hB⟩
end Go.Proofs.YtpglbakcjihohaaGreat

/-! Whose block is whose; the book: 'reads', 'keep'. -/
namespace Go.Proofs.YtpglbakcjihohaaGreat
open Go.RowKit
set_option maxRecDepth 100000

/-- Whose a block of memory is: nobody's; an argument's; the game's; the book's two lists; a kept list's; the packets' list; a laid packet's items; the store's i-th; the document's store's i-th. -/
structure Tag where
  kind : Nat
  num : Nat
abbrev Tag.free : Tag := ⟨0, 0⟩
abbrev Tag.arg : Tag := ⟨1, 0⟩
abbrev Tag.gm : Tag := ⟨2, 0⟩
abbrev Tag.bL : Tag := ⟨3, 0⟩
abbrev Tag.bT : Tag := ⟨4, 0⟩
abbrev Tag.bI : Tag := ⟨5, 0⟩
abbrev Tag.ld : Tag := ⟨6, 0⟩
abbrev Tag.ldI : Tag := ⟨7, 0⟩
abbrev Tag.st (i : Nat) : Tag := ⟨8, i⟩
abbrev Tag.wd (i : Nat) : Tag := ⟨9, i⟩
abbrev Ghost := Nat → Tag
/-- The slice's block, if there is one, is t's. -/
def TgV (own : Ghost) (v : Value) (t : Tag) : Prop := ∀ k, v.ownBlock = some k → own k = t
/-- All blocks but nobody's, and some of certain owners, are as they were. -/
structure Fr (own : Ghost) (S : Tag → Prop) (w w' : World) : Prop where
  os : w'.os = w.os
  tape : w'.tape = w.tape
  output : w'.output = w.output
  size : w.heap.size ≤ w'.heap.size
  block : ∀ k, k < w.heap.size → own k ≠ .free → ¬ S (own k) → w'.heap[k]? = w.heap[k]?
theorem Fr.refl (own : Ghost) (S : Tag → Prop) (w : World) : Fr own S w w := ⟨rfl, rfl, rfl, Nat.le_refl _, fun _ _ _ _ => rfl⟩
/-- The owners of what was somebody's are still the same. -/
def Same (w : World) (own own' : Ghost) : Prop := ∀ k, k < w.heap.size → own k ≠ .free → own' k = own k
theorem Same.refl (w : World) (own : Ghost) : Same w own own := fun _ _ _ => rfl
theorem Same.trans {w w1 : World} {own own1 own2 : Ghost} (h : Same w own own1) (hs : w.heap.size ≤ w1.heap.size) (k : Same w1 own1 own2) : Same w own own2 := fun i hi hf => by
  have e := h i hi hf
  rw [k i (Nat.lt_of_lt_of_le hi hs) (by rw [e]; exact hf), e]
theorem Fr.trans {own own' : Ghost} {S : Tag → Prop} {w w1 w2 : World} (h : Fr own S w w1) (hs : Same w own own') (k : Fr own' S w1 w2) : Fr own S w w2 :=
  ⟨k.os.trans h.os, k.tape.trans h.tape, k.output.trans h.output, Nat.le_trans h.size k.size, fun i hi hf hn => (k.block i (Nat.lt_of_lt_of_le hi h.size) (by rw [hs i hi hf]; exact hf) (by rw [hs i hi hf]; exact hn)).trans (h.block i hi hf hn)⟩
theorem Fr.mono {own : Ghost} {S S' : Tag → Prop} {w w' : World} (h : Fr own S w w') (hs : ∀ t, S t → S' t) : Fr own S' w w' := ⟨h.os, h.tape, h.output, h.size, fun k hk hf hn => h.block k hk hf fun e => hn (hs _ e)⟩
theorem Fr.of_below {own : Ghost} {S : Tag → Prop} {w w' : World} (h : Below w.heap.size w w') : Fr own S w w' := ⟨h.os, h.tape, h.output, h.size, fun k hk _ _ => h.block k hk⟩
theorem Fr.of_grown {own : Ghost} {S : Tag → Prop} {w w' : World} {row : Option Nat} (h : w.grownBy w' row) (hr : ∀ k, row = some k → own k = .free ∨ S (own k)) : Fr own S w w' :=
  ⟨h.os, h.tape, h.output, h.size, fun k hk hf hn => h.block k hk fun e => by rcases hr k e.symm with h | h; exact hf h; exact hn h⟩

/-- The book: m lists, and three longer ones for each. -/
structure Bk (w : World) (own : Ghost) (B0 : Nat) (vl vt : Value) (L T : List Sl) : Prop where
  len : T.length = 3 * L.length
  ol : Own clSl w B0 29 vl L
  ot : Own clSl w B0 29 vt T
  tl : TgV own vl .bL
  tt : TgV own vt .bT
  ml : Marked w L 1
  mt : Marked w T 3
  gl : ∀ s ∈ L, ∀ a, s.p = some a → own a.block = .bI ∧ a.block < w.heap.size
  gt : ∀ s ∈ T, ∀ a, s.p = some a → own a.block = .bI ∧ a.block < w.heap.size
theorem Marked.chg {w w' : World} {L : List Sl} {each : Nat} (h : Marked w L each) (hs : w.heap.size ≤ w'.heap.size) (hb : ∀ s ∈ L, ∀ a, s.p = some a → w'.heap[a.block]? = w.heap[a.block]?) : Marked w' L each := fun k s hk => by
  obtain ⟨h1, h2⟩ := h k s hk
  exact ⟨h1, h2.chg hs fun b off e => hb s (List.mem_of_getElem? hk) ⟨b, off, none⟩ e⟩
theorem Bk.chg {w w' : World} {own own' : Ghost} {B0 : Nat} {vl vt : Value} {L T : List Sl} (h : Bk w own B0 vl vt L T) {S : Tag → Prop} (f : Fr own S w w') (s : Same w own own') (h1 : ¬ S .bL) (h2 : ¬ S .bT) (h3 : ¬ S .bI) : Bk w' own' B0 vl vt L T where
  len := h.len
  ol := h.ol.chg fun k hk => f.block k (h.ol.lt k hk).2 (by rw [h.tl k hk]; simp) (by rw [h.tl k hk]; exact h1)
  ot := h.ot.chg fun k hk => f.block k (h.ot.lt k hk).2 (by rw [h.tt k hk]; simp) (by rw [h.tt k hk]; exact h2)
  tl := fun k hk => by rw [s k (h.ol.lt k hk).2 (by rw [h.tl k hk]; simp)]; exact h.tl k hk
  tt := fun k hk => by rw [s k (h.ot.lt k hk).2 (by rw [h.tt k hk]; simp)]; exact h.tt k hk
  ml := h.ml.chg f.size fun x hx a ha => by obtain ⟨e, hlt⟩ := h.gl x hx a ha; exact f.block _ hlt (by rw [e]; simp) (by rw [e]; exact h3)
  mt := h.mt.chg f.size fun x hx a ha => by obtain ⟨e, hlt⟩ := h.gt x hx a ha; exact f.block _ hlt (by rw [e]; simp) (by rw [e]; exact h3)
  gl := fun x hx a ha => by obtain ⟨e, hlt⟩ := h.gl x hx a ha; exact ⟨by rw [s _ hlt (by rw [e]; simp)]; exact e, Nat.lt_of_lt_of_le hlt f.size⟩
  gt := fun x hx a ha => by obtain ⟨e, hlt⟩ := h.gt x hx a ha; exact ⟨by rw [s _ hlt (by rw [e]; simp)]; exact e, Nat.lt_of_lt_of_le hlt f.size⟩

set_option maxHeartbeats 1000000 in
theorem reads_any (bg o : Nat) (w : World) (own : Ghost) (B0 : Nat) (vl vt : Value) (L T : List Sl) (hb : Bk w own B0 vl vt L T) (c1 : w.cell? ⟨bg, o, none⟩ = some vl) (c2 : w.cell? ⟨bg, o + 1, none⟩ = some vt) (hm : L.length ≤ 300000000) :
    Calls Tryz.prog 11 #[.pointer (some ⟨bg, o, none⟩)] w fun e w' => e = .returned (.bool true) ∧ Below w.heap.size w w' := by
  obtain ⟨pl, cl, rfl, _, _, rl⟩ := hb.ol.form
  obtain ⟨pt, ct, rfl, _, _, rt⟩ := hb.ot.form
  have hlen := hb.len
  obtain ⟨nl, hnl⟩ : ∃ n, L.length = n := ⟨_, rfl⟩
  obtain ⟨nt, hnt⟩ : ∃ n, T.length = n := ⟨_, rfl⟩
  rw [hnl, hnt] at hlen
  rw [hnl] at c1 hm
  rw [hnt] at c2
  have h9 : nt ≤ 1000000000 := by omega
  clear hlen
  have RL : Hid (RowsAt clSl w pl L) := rl
  have RT : Hid (RowsAt clSl w pt T) := rt
  have HB : Hid (Bk w own B0 (.slice pl L.length cl) (.slice pt T.length ct) L T) := hb
  clear hb rl rt
  go_enter Tryz.func11, Tryz.ntmps11
  go_wp2_with fail
  refine (marked_any L pl _ cl 1 _ hnl RL.out (by omega) (by omega) (by omega) HB.out.ml 1 (by omega)).mono ?_
  rintro e w1 ⟨rfl, hb1⟩
  replace c2 := cell_keep hb1 c2
  have rt := RT.out.below hb1
  have mt : Marked w1 T 3 := HB.out.mt.chg hb1.size fun s hs a ha => hb1.block _ (HB.out.gt s hs a ha).2
  have RT1 : Hid (RowsAt clSl w1 pt T) := rt
  have MT1 : Hid (Marked w1 T 3) := mt
  clear rt mt
  go_wp2_with fail
  refine (marked_any T pt _ ct 3 _ hnt RT1.out h9 (by omega) (by omega) MT1.out 3 (by omega)).mono ?_
  rintro e w2 ⟨rfl, hb2⟩
  go_wp2
  go_ret
  exact ⟨rfl, bnext hb1 hb2⟩

section
variable {ops : Array Oper} {rest : List Oper} {o : Oper} {a : Act} {w : World} {Q : Exit → Act → World → Prop}
theorem build1_sl (hgd : o.guard = none) (x : Operand) (ho : o.op = .buildSlice 38 1 #[(0, x)]) (s : Sl) (hx : a.eval x = s.val)
    (h : RowsAt clSl (w.alloc (.cells (flat clSl [s]).toArray 29)) (some ⟨w.heap.size, 0, none⟩) [s] → wpList Tryz.prog ops Q rest (a.put o.dst (.slice (some ⟨w.heap.size, 0, none⟩) 1 1)) (w.alloc (.cells (flat clSl [s]).toArray 29))) : wpList Tryz.prog ops Q (o :: rest) a w :=
  wpList_buildCl hgd _ _ 24 slSl 1 _ ho [s.val] [s] (by simp [hx]) (by rfl) rfl (by decide) (by decide) h
theorem build3_sl (hgd : o.guard = none) (x y z : Operand) (ho : o.op = .buildSlice 38 3 #[(0, x), (1, y), (2, z)]) (s1 s2 s3 : Sl) (hx : a.eval x = s1.val) (hy : a.eval y = s2.val) (hz : a.eval z = s3.val)
    (h : RowsAt clSl (w.alloc (.cells (flat clSl [s1, s2, s3]).toArray 29)) (some ⟨w.heap.size, 0, none⟩) [s1, s2, s3] → wpList Tryz.prog ops Q rest (a.put o.dst (.slice (some ⟨w.heap.size, 0, none⟩) 3 3)) (w.alloc (.cells (flat clSl [s1, s2, s3]).toArray 29))) : wpList Tryz.prog ops Q (o :: rest) a w :=
  wpList_buildCl hgd _ _ 24 slSl 3 _ ho [s1.val, s2.val, s3.val] [s1, s2, s3] (by simp [hx, hy, hz]) (by rfl) rfl (by decide) (by decide) h
theorem append_sl (hgd : o.guard = none) (s x : Operand) (ho : o.op = .call { callee := .builtin .append, args := #[s, x], argTypes := #[38, 38] }) (base : Nat) (v : Value) (l : List Sl) (hs : a.eval s = v) (hown : Own clSl w base 29 v l)
    (p : Option Addr) (m c : Nat) (ms : List Sl) (hx : a.eval x = .slice p m c) (hm : ms.length = m) (hg : RowsAt clSl w p ms) (hpos : 0 < m) (hl : l.length + m ≤ 1000000000) (hbase : base ≤ w.heap.size)
    (h : ∀ v' w', Own clSl w' base 29 v' (l ++ ms) → w.grownBy w' v.ownBlock → (v'.ownBlock = v.ownBlock ∨ v'.ownBlock = some w.heap.size) → (∃ g cap, v' = .slice (some ⟨g, 0, none⟩) (l ++ ms).length cap) → wpList Tryz.prog ops Q rest (a.put o.dst v') w') : wpList Tryz.prog ops Q (o :: rest) a w :=
  wpList_append_cl hgd s x _ _ 24 ho slSl base v l hs hown p m c ms hx hm hg hpos (by simp only [maxLen]; omega) (by omega) hbase fun v' w' h1 _ h2 h3 h4 => h v' w' h1 h2 (by rcases h3 with h3 | h3; exact .inl h3; exact .inr h3.1) h4
end
end Go.Proofs.YtpglbakcjihohaaGreat

/-! 'keep': a list that came out is marked, and so are three longer ones made of it; all are kept in the book. -/
namespace Go.Proofs.YtpglbakcjihohaaGreat
open Go.RowKit
set_option maxRecDepth 100000

theorem RowsAt.take {α : Type} {C : Cl α} {w : World} {p : Option Addr} {l : List α} (h : RowsAt C w p l) (k : Nat) : RowsAt C w p (l.take k) := by
  rcases h with rfl | ⟨b, off, rfl, hlt, hc⟩
  · exact .inl (by simp)
  · refine .inr ⟨b, off, rfl, hlt, fun i x hx => hc i x ?_⟩
    rw [List.getElem?_take] at hx
    split at hx
    · exact hx
    · cases hx
/-- Rows of marks stay rows of marks when marks are appended. -/
theorem marks_stay {w w' : World} {base : Nat} {v v' : Value} {n : Nat} {M : It} (ho : Own clIt w' base 114 v' (List.replicate n M)) (hg : w.grownBy w' v.ownBlock) (hat : v'.ownBlock = v.ownBlock ∨ v'.ownBlock = some w.heap.size ∧ w.grownBy w' none)
    {p : Option Addr} {a : Nat} (hp : RowsAt clIt w p (List.replicate a M)) (ha : a ≤ n) (hpp : ∀ b off, p = some ⟨b, off, none⟩ → some b ≠ v.ownBlock ∨ off = 0) : RowsAt clIt w' p (List.replicate a M) := by
  rcases hp with h | ⟨b, off, rfl, hlt, hc⟩
  · exact .inl h
  · have hp : RowsAt clIt w (some ⟨b, off, none⟩) (List.replicate a M) := .inr ⟨b, off, rfl, hlt, hc⟩
    rcases hat with hat | ⟨_, hg0⟩
    · by_cases hb : some b = v.ownBlock
      · obtain rfl : off = 0 := by
          rcases hpp b off rfl with h | h
          · exact absurd hb h
          · exact h
        have hf := ho.form
        obtain ⟨p', c, hv', _, _, hr⟩ := hf
        rcases ho.2 with ⟨hv2, _⟩ | ⟨g, cap, cur, hv2, _⟩
        · rw [hv2] at hat; rw [← hat] at hb; simp [Value.ownBlock] at hb
        · rw [hv2] at hat; rw [← hat] at hb
          obtain rfl : b = g := by simpa [Value.ownBlock] using hb
          rw [hv2] at hv'
          cases hv'
          have := hr.take a
          rwa [List.take_replicate, Nat.min_eq_left ha] at this
      · exact hp.chg hg.size fun b' off' e => by cases e; exact hg.block b hlt hb
    · exact hp.chg hg.size fun b' off' e => by cases e; exact hg0.block b hlt (by simp)

/-- What stands while the longer lists are made: the list itself, all marks; the mark in its own block; nothing old but the list's row has changed. -/
structure KS (w1 w2 wr : World) (B1 : Nat) (v : Value) (k : Nat) (X : It) (M : Array Value) : Prop where
  own : Own clIt wr B1 114 v (List.replicate k X)
  gr : w2.grownBy wr v.ownBlock
  gM : wr.heap[w1.heap.size]? = some (.cells M 114)
theorem KS.alloc {w1 w2 wr : World} {B1 : Nat} {v : Value} {k : Nat} {X : It} {M : Array Value} (h : KS w1 w2 wr B1 v k X M) (o : Obj) : KS w1 w2 (wr.alloc o) B1 v k X M :=
  ⟨h.own.below (below_alloc _ _), ⟨h.gr.os, h.gr.tape, h.gr.output, Nat.le_trans h.gr.size (by simp), fun j hj hne => (Below.heap_alloc wr o j (Nat.lt_of_lt_of_le hj h.gr.size)).trans (h.gr.block j hj hne)⟩, blk_old h.gM⟩
theorem app_step {w1 w2 wr w' : World} {B1 k j : Nat} {v v' : Value} {X : It} {M : Array Value} {o : Obj} {ms : List It} (ks : KS w1 w2 wr B1 v k X M) (hv1 : v.ownBlock ≠ some w1.heap.size)
    (ho : Own clIt w' B1 114 v' (List.replicate k X ++ ms)) (hms : ms = List.replicate j X) (hold : Own clIt w' B1 114 v (List.replicate k X)) (hg : (wr.alloc o).grownBy w' v.ownBlock)
    (hat : v'.ownBlock = v.ownBlock ∨ v'.ownBlock = some (wr.alloc o).heap.size ∧ (wr.alloc o).grownBy w' none) (hf : ∃ g cap, v' = .slice (some ⟨g, 0, none⟩) (List.replicate k X ++ ms).length cap) :
    KS w1 w2 w' B1 v k X M ∧ ∃ g cap, v' = .slice (some ⟨g, 0, none⟩) (k + j) cap ∧ RowsAt clIt w' (some ⟨g, 0, none⟩) (List.replicate (k + j) X) ∧ g < w'.heap.size ∧ (some g = v.ownBlock ∨ w2.heap.size ≤ g) ∧
      (∀ g' a, RowsAt clIt wr (some ⟨g', 0, none⟩) (List.replicate a X) → a ≤ k + j → RowsAt clIt w' (some ⟨g', 0, none⟩) (List.replicate a X)) ∧ wr.heap.size ≤ w'.heap.size := by
  subst hms
  rw [List.replicate_append_replicate] at ho
  have ka := ks.alloc o
  have hsz : wr.heap.size ≤ w'.heap.size := Nat.le_trans (by simp) hg.size
  refine ⟨⟨hold, ⟨hg.os.trans ka.gr.os, hg.tape.trans ka.gr.tape, hg.output.trans ka.gr.output, Nat.le_trans ka.gr.size hg.size, fun i hi hne => (hg.block i (Nat.lt_of_lt_of_le hi ka.gr.size) hne).trans (ka.gr.block i hi hne)⟩, ?_⟩, ?_⟩
  · rw [hg.block _ (lt_of_blk ka.gM) (fun e => hv1 e.symm)]; exact ka.gM
  · obtain ⟨g, cap, rfl⟩ := hf
    have hlen : (List.replicate k X ++ List.replicate j X).length = k + j := by simp
    rw [hlen] at ho hat ⊢
    obtain ⟨p', c', hv', _, _, hr⟩ := ho.form
    rw [List.length_replicate] at hv'
    cases hv'
    refine ⟨g, cap, rfl, hr, (ho.lt g rfl).2, ?_, fun g' a hra ha => marks_stay ho hg hat (hra.below (below_alloc _ _)) ha (fun b off e => .inr (by cases e; rfl)), hsz⟩
    rcases hat with hat | ⟨hat, _⟩
    · exact .inl hat
    · right
      have : g = (wr.alloc o).heap.size := by simpa [Value.ownBlock] using hat
      rw [this]
      exact Nat.le_trans ks.gr.size (by simp)

theorem kept_old {own : Ghost} {w w2 w7 : World} {v : Value} (h1 : Below w.heap.size w w2) (h2 : w2.grownBy w7 v.ownBlock) (hf : TgV own v .free) : ∀ k, k < w.heap.size → own k ≠ .free → w7.heap[k]? = w.heap[k]? := fun k hk hn => by
  rw [h2.block k (Nat.lt_of_lt_of_le hk h1.size) (fun e => hn (hf k e.symm))]; exact h1.block k hk
theorem game_cell {own : Ghost} {w w7 : World} {bg : Nat} {a0 a1 a2 vl vt vs : Value} (H : ∀ k, k < w.heap.size → own k ≠ .free → w7.heap[k]? = w.heap[k]?) (hg : w.heap[bg]? = some (.cells #[a0, a1, a2, vl, vt] 42)) (hgm : own bg = .gm) (hv : vl = vs) : w7.cell? ⟨bg, 3, none⟩ = some vs := by
  have e : w7.heap[bg]? = some (.cells #[a0, a1, a2, vl, vt] 42) := by rw [H bg (lt_of_blk hg) (by rw [hgm]; simp)]; exact hg
  rw [cell_of_row _ _ _ _ _ _ e, ← hv]; rfl
/-- What was somebody's is as it was. -/
def Old (own : Ghost) (w wx : World) : Prop := ∀ k, k < w.heap.size → own k ≠ .free → wx.heap[k]? = w.heap[k]?
theorem Old.own {own : Ghost} {w wx : World} {α : Type} {C : Cl α} {B : Nat} {e : TypeId} {v : Value} {l : List α} {t : Tag} (h : Old own w wx) (ho : Own C w B e v l) (ht : TgV own v t) (hf : t ≠ .free) : Own C wx B e v l :=
  ho.chg fun k hk => h k (ho.lt k hk).2 (by rw [ht k hk]; exact hf)
/-- All that 'keep' has done, put together. -/
theorem keep_done {own : Ghost} {w w7 w8 w9 w10 w11 : World} {B0 bg n c k1 k2 k3 c1 c2 c3 : Nat} {b1 b2 b3 : Nat} {p : Option Addr} {a0 a1 a2 vl vt v8 v9 : Value} {L T : List Sl} {o o' : Obj}
    (hb : Bk w own B0 vl vt L T) (hg : w.heap[bg]? = some (.cells #[a0, a1, a2, vl, vt] 42)) (hgm : own bg = .gm) (hfree : TgV own (.slice p n c) .free) (hn : n ≤ 100000000)
    (hk1 : k1 = n + 1) (hk2 : k2 = n + 2) (hk3 : k3 = n + 3)
    (h7 : Old own w w7) (w7w : w.heap.size ≤ w7.heap.size) (h7o : w7.os = w.os ∧ w7.tape = w.tape ∧ w7.output = w.output) (r0 : RowsAt clIt w7 p (List.replicate n (mk L.length))) (l0 : ∀ a, p = some a → a.block < w.heap.size)
    (r1 : RowsAt clIt w7 (some ⟨b1, 0, none⟩) (List.replicate k1 (mk L.length))) (r2 : RowsAt clIt w7 (some ⟨b2, 0, none⟩) (List.replicate k2 (mk L.length))) (r3 : RowsAt clIt w7 (some ⟨b3, 0, none⟩) (List.replicate k3 (mk L.length)))
    (l1 : b1 < w7.heap.size) (l2 : b2 < w7.heap.size) (l3 : b3 < w7.heap.size)
    (q1 : some b1 = Value.ownBlock (.slice p n c) ∨ w.heap.size ≤ b1) (q2 : some b2 = Value.ownBlock (.slice p n c) ∨ w.heap.size ≤ b2) (q3 : some b3 = Value.ownBlock (.slice p n c) ∨ w.heap.size ≤ b3)
    (o8 : Own clSl w8 B0 29 v8 (L ++ [⟨p, n, c⟩])) (g8 : (w7.alloc o).grownBy w8 vl.ownBlock) (t8 : v8.ownBlock = vl.ownBlock ∨ v8.ownBlock = some (w7.alloc o).heap.size)
    (e9 : w9 = w8.setCell ⟨bg, 3, none⟩ v8)
    (o9 : Own clSl w10 B0 29 v9 (T ++ [⟨some ⟨b1, 0, none⟩, k1, c1⟩, ⟨some ⟨b2, 0, none⟩, k2, c2⟩, ⟨some ⟨b3, 0, none⟩, k3, c3⟩])) (g9 : (w9.alloc o').grownBy w10 vt.ownBlock) (t9 : v9.ownBlock = vt.ownBlock ∨ v9.ownBlock = some (w9.alloc o').heap.size)
    (e11 : w11 = w10.setCell ⟨bg, 4, none⟩ v9) :
    ∃ vl' vt' L' T' own', w11.heap[bg]? = some (.cells #[a0, a1, a2, vl', vt'] 42) ∧ Bk w11 own' B0 vl' vt' L' T' ∧ L'.length = L.length + 1 ∧ Same w own own' ∧ Fr own (fun t => t = .gm ∨ t = .bL ∨ t = .bT) w w11 := by
  classical
  have hbl := lt_of_blk hg
  have s8 : w7.heap.size ≤ w8.heap.size := Nat.le_trans (by simp) g8.size
  have s9 : w9.heap.size = w8.heap.size := by rw [e9]; simp
  have s10 : w9.heap.size ≤ w10.heap.size := Nat.le_trans (by simp) g9.size
  have s11 : w11.heap.size = w10.heap.size := by rw [e11]; simp
  have nbl : some bg ≠ vl.ownBlock := fun e => by have := hb.tl bg e.symm; rw [hgm] at this; cases this
  have nbt : some bg ≠ vt.ownBlock := fun e => by have := hb.tt bg e.symm; rw [hgm] at this; cases this
  have nv8 : v8.ownBlock ≠ some bg := fun e => by
    rcases t8 with h | h
    · rw [h] at e; exact nbl e.symm
    · rw [h] at e; have := Option.some.inj e; simp at this; omega
  have nv9 : v9.ownBlock ≠ some bg := fun e => by
    rcases t9 with h | h
    · rw [h] at e; exact nbt e.symm
    · rw [h] at e; have := Option.some.inj e; simp at this; omega
  -- a block that neither the game nor the two lists have
  have far : ∀ j, j < w7.heap.size → j ≠ bg → some j ≠ vl.ownBlock → some j ≠ vt.ownBlock → w11.heap[j]? = w7.heap[j]? := fun j hj h1 h2 h3 => by
    rw [e11, heap_setCell_other _ _ _ _ (by show j ≠ bg; exact h1), g9.block j (by simp; omega) h3, Below.heap_alloc w9 o' j (by omega), e9, heap_setCell_other _ _ _ _ (by show j ≠ bg; exact h1), g8.block j (by simp; omega) h2, Below.heap_alloc w7 o j hj]
  have vlt : ∀ j, vt.ownBlock = some j → some j ≠ vl.ownBlock := fun j hj e => by have := hb.tt j hj; rw [hb.tl j e.symm] at this; cases this
  have gG7 : w7.heap[bg]? = some (.cells #[a0, a1, a2, vl, vt] 42) := by rw [h7 bg hbl (by rw [hgm]; simp)]; exact hg
  have gG8 : w8.heap[bg]? = some (.cells #[a0, a1, a2, vl, vt] 42) := by rw [g8.block bg (by simp; omega) nbl, Below.heap_alloc w7 o bg (by omega)]; exact gG7
  have gG9 : w9.heap[bg]? = some (.cells #[a0, a1, a2, v8, vt] 42) := by rw [e9, heap_setCell_same _ _ _ _ _ _ gG8]; rfl
  have gG10 : w10.heap[bg]? = some (.cells #[a0, a1, a2, v8, vt] 42) := by rw [g9.block bg (by simp; omega) nbt, Below.heap_alloc w9 o' bg (by omega)]; exact gG9
  have gG11 : w11.heap[bg]? = some (.cells #[a0, a1, a2, v8, v9] 42) := by rw [e11, heap_setCell_same _ _ _ _ _ _ gG10]; rfl
  -- the new list of lists, to the end
  have nv8t : ∀ j, v8.ownBlock = some j → some j ≠ vt.ownBlock := fun j hj e => by
    rcases t8 with h | h
    · rw [h] at hj; exact vlt j e.symm hj.symm
    · rw [h] at hj; have := Option.some.inj hj; have := (hb.ot.lt j e.symm).2; simp at *; omega
  have o11 : Own clSl w11 B0 29 v8 (L ++ [⟨p, n, c⟩]) := o8.chg fun j hj => by
    have hlt := (o8.lt j hj).2
    have hne : j ≠ bg := fun e => nv8 (by rw [hj, e])
    rw [e11, heap_setCell_other _ _ _ _ (by show j ≠ bg; exact hne), g9.block j (by simp; omega) (nv8t j hj), Below.heap_alloc w9 o' j (by omega), e9, heap_setCell_other _ _ _ _ (by show j ≠ bg; exact hne)]
  have o12 : Own clSl w11 B0 29 v9 (T ++ [⟨some ⟨b1, 0, none⟩, k1, c1⟩, ⟨some ⟨b2, 0, none⟩, k2, c2⟩, ⟨some ⟨b3, 0, none⟩, k3, c3⟩]) := o9.chg fun j hj => by
    rw [e11, heap_setCell_other _ _ _ _ (by show j ≠ bg; intro e; exact nv9 (by rw [hj, e]))]
  -- a block of marks: the list's own, or made meanwhile
  have loc : ∀ b, b < w7.heap.size → (some b = Value.ownBlock (.slice p n c) ∨ w.heap.size ≤ b) → b ≠ bg ∧ some b ≠ vl.ownBlock ∧ some b ≠ vt.ownBlock ∧ v8.ownBlock ≠ some b ∧ v9.ownBlock ≠ some b ∧ (b < w.heap.size → own b = .free) := fun b hlt hq => by
    have h1 : b < w.heap.size → own b = .free := fun h => by
      rcases hq with hq | hq
      · exact hfree b hq.symm
      · omega
    have n1 : b ≠ bg := fun e => by subst e; have := h1 hbl; rw [hgm] at this; cases this
    have n2 : some b ≠ vl.ownBlock := fun e => by have := h1 (hb.ol.lt b e.symm).2; rw [hb.tl b e.symm] at this; cases this
    have n3 : some b ≠ vt.ownBlock := fun e => by have := h1 (hb.ot.lt b e.symm).2; rw [hb.tt b e.symm] at this; cases this
    refine ⟨n1, n2, n3, fun e => ?_, fun e => ?_, h1⟩
    · rcases t8 with h | h
      · rw [h] at e; exact n2 e.symm
      · rw [h] at e; have := Option.some.inj e; simp at this; omega
    · rcases t9 with h | h
      · rw [h] at e; exact n3 e.symm
      · rw [h] at e; have := Option.some.inj e; simp at this; omega
  have rows : ∀ (q : Option Addr) (a : Nat), RowsAt clIt w7 q (List.replicate a (mk L.length)) → (∀ b off, q = some ⟨b, off, none⟩ → b < w7.heap.size ∧ (some b = Value.ownBlock (.slice p n c) ∨ w.heap.size ≤ b)) → RowsAt clIt w11 q (List.replicate a (mk L.length)) := fun q a hr hl =>
    hr.chg (by omega) fun b off e => by
      obtain ⟨hlt, hq⟩ := hl b off e
      obtain ⟨n1, n2, n3, _⟩ := loc b hlt hq
      exact far b hlt n1 n2 n3
  have q0 : ∀ a, p = some a → a.block < w7.heap.size ∧ (some a.block = Value.ownBlock (.slice p n c) ∨ w.heap.size ≤ a.block) := fun a e => by
    subst e; exact ⟨by have := l0 a rfl; omega, .inl rfl⟩
  -- whose the blocks are now
  let own' : Ghost := fun j => if j < w.heap.size ∧ own j ≠ .free then own j else if v8.ownBlock = some j then .bL else if v9.ownBlock = some j then .bT else .bI
  have oo : ∀ j, j < w.heap.size → own j ≠ .free → own' j = own j := fun j h1 h2 => if_pos ⟨h1, h2⟩
  have om : ∀ b, b < w7.heap.size → (some b = Value.ownBlock (.slice p n c) ∨ w.heap.size ≤ b) → own' b = .bI := fun b hlt hq => by
    obtain ⟨_, _, _, n4, n5, n6⟩ := loc b hlt hq
    have : ¬ (b < w.heap.size ∧ own b ≠ .free) := fun h => h.2 (n6 h.1)
    simp only [own', if_neg this, if_neg n4, if_neg n5]
  have old : ∀ s : Sl, (∀ a, s.p = some a → own a.block = .bI ∧ a.block < w.heap.size) → ∀ a, s.p = some a → w11.heap[a.block]? = w.heap[a.block]? := fun s hs a ha => by
    obtain ⟨e, hlt⟩ := hs a ha
    rw [far a.block (by omega) (fun h => by rw [h, hgm] at e; cases e) (fun h => by rw [hb.tl _ h.symm] at e; cases e) (fun h => by rw [hb.tt _ h.symm] at e; cases e)]
    exact h7 _ hlt (by rw [e]; simp)
  have s711 : w7.heap.size ≤ w11.heap.size := by omega
  refine ⟨v8, v9, _, _, own', gG11, ⟨?_, o11, o12, ?_, ?_, ?_, ?_, ?_, ?_⟩, by simp, oo, ?_⟩
  · have := hb.len; simp; omega
  · intro j hj
    rcases t8 with h | h
    · rw [h] at hj
      rw [oo j (hb.ol.lt j hj).2 (by rw [hb.tl j hj]; simp)]; exact hb.tl j hj
    · have : ¬ (j < w.heap.size ∧ own j ≠ .free) := fun hh => by rw [h] at hj; have := Option.some.inj hj; simp at this; omega
      simp only [own', if_neg this, if_pos hj]
  · intro j hj
    rcases t9 with h | h
    · rw [h] at hj
      rw [oo j (hb.ot.lt j hj).2 (by rw [hb.tt j hj]; simp)]; exact hb.tt j hj
    · have e := hj
      rw [h] at e
      have ej := Option.some.inj e
      have : ¬ (j < w.heap.size ∧ own j ≠ .free) := fun hh => by simp at ej; omega
      have n8 : ¬ v8.ownBlock = some j := fun h8 => by have := (o8.lt j h8).2; simp at ej; omega
      simp only [own', if_neg this, if_neg n8, if_pos hj]
  · intro i s hi
    by_cases hlt : i < L.length
    · rw [List.getElem?_append_left hlt] at hi
      exact (hb.ml.chg (w' := w11) (by omega) fun x hx a ha => old x (hb.gl x hx) a ha) i s hi
    · rw [List.getElem?_append_right (by omega)] at hi
      have e0 : i - L.length = 0 := by
        rcases Nat.eq_zero_or_pos (i - L.length) with h | h
        · exact h
        · rw [List.getElem?_eq_none (by simp; omega)] at hi; cases hi
      rw [e0] at hi
      obtain rfl := Option.some.inj hi
      obtain rfl : i = L.length := by omega
      rw [Nat.div_one]
      exact ⟨by show n ≤ _; omega, rows p n r0 fun b off e => q0 ⟨b, off, none⟩ e⟩
  · intro i s hi
    have hT := hb.len
    by_cases hlt : i < T.length
    · rw [List.getElem?_append_left hlt] at hi
      exact (hb.mt.chg (w' := w11) (by omega) fun x hx a ha => old x (hb.gt x hx) a ha) i s hi
    · rw [List.getElem?_append_right (by omega)] at hi
      obtain ⟨d, hd⟩ : ∃ d, i - T.length = d := ⟨_, rfl⟩
      rw [hd] at hi
      have hdiv : i / 3 = L.length ∨ 3 ≤ d := by omega
      rcases hdiv with hdiv | hdiv
      · rw [hdiv]
        match d, hi with
        | 0, hi => obtain rfl := Option.some.inj hi; exact ⟨by show k1 ≤ _; omega, rows _ _ r1 fun b off e => by cases e; exact ⟨l1, q1⟩⟩
        | 1, hi => obtain rfl := Option.some.inj hi; exact ⟨by show k2 ≤ _; omega, rows _ _ r2 fun b off e => by cases e; exact ⟨l2, q2⟩⟩
        | 2, hi => obtain rfl := Option.some.inj hi; exact ⟨by show k3 ≤ _; omega, rows _ _ r3 fun b off e => by cases e; exact ⟨l3, q3⟩⟩
        | d + 3, hi => simp at hi
      · rw [List.getElem?_eq_none (by simp; omega)] at hi; cases hi
  · intro s hs a ha
    rcases List.mem_append.1 hs with h | h
    · obtain ⟨e, hlt⟩ := hb.gl s h a ha
      exact ⟨by rw [oo _ hlt (by rw [e]; simp)]; exact e, by omega⟩
    · obtain rfl := List.mem_singleton.1 h
      obtain ⟨h1, h2⟩ := q0 a ha
      exact ⟨om _ h1 h2, by omega⟩
  · intro s hs a ha
    rcases List.mem_append.1 hs with h | h
    · obtain ⟨e, hlt⟩ := hb.gt s h a ha
      exact ⟨by rw [oo _ hlt (by rw [e]; simp)]; exact e, by omega⟩
    · simp only [List.mem_cons, List.not_mem_nil, or_false] at h
      rcases h with rfl | rfl | rfl
      · cases ha; exact ⟨om _ l1 q1, by show b1 < _; omega⟩
      · cases ha; exact ⟨om _ l2 q2, by show b2 < _; omega⟩
      · cases ha; exact ⟨om _ l3 q3, by show b3 < _; omega⟩
  · obtain ⟨x1, x2, x3⟩ := h7o
    refine ⟨?_, ?_, ?_, by omega, fun j hj hf hn' => ?_⟩
    · rw [e11]; exact (g9.os.trans (by rw [e9]; exact g8.os)).trans x1
    · rw [e11]; exact (g9.tape.trans (by rw [e9]; exact g8.tape)).trans x2
    · rw [e11]; exact (g9.output.trans (by rw [e9]; exact g8.output)).trans x3
    · rw [far j (by omega) (fun h => hn' (by rw [h]; exact .inl hgm)) (fun h => hn' (.inr (.inl (hb.tl _ h.symm)))) (fun h => hn' (.inr (.inr (hb.tt _ h.symm))))]
      exact h7 j hj hf

end Go.Proofs.YtpglbakcjihohaaGreat

/-! 'keep': the walk. -/
namespace Go.Proofs.YtpglbakcjihohaaGreat
open Go.RowKit
set_option maxRecDepth 100000

theorem game8 {own : Ghost} {w w7 w8 : World} {B0 bg : Nat} {a0 a1 a2 vl vt v : Value} {L T : List Sl} {o : Obj} (h7 : Old own w w7) (hs : w.heap.size ≤ w7.heap.size) (hb : Bk w own B0 vl vt L T) (hg : w.heap[bg]? = some (.cells #[a0, a1, a2, vl, vt] 42)) (hgm : own bg = .gm) (hv : vl = v) (g8 : (w7.alloc o).grownBy w8 v.ownBlock) :
    w8.heap[bg]? = some (.cells #[a0, a1, a2, vl, vt] 42) := by
  subst hv
  have hbl := lt_of_blk hg
  rw [g8.block bg (by simp; omega) (fun e => by have := hb.tl bg e.symm; rw [hgm] at this; cases this), Below.heap_alloc w7 o bg (by omega), h7 bg hbl (by rw [hgm]; simp)]
  exact hg
theorem tails8 {own : Ghost} {w w7 w8 : World} {B0 bg : Nat} {a0 a1 a2 vl vt v u : Value} {L T : List Sl} {o : Obj} (h7 : Old own w w7) (hs : w.heap.size ≤ w7.heap.size) (hb : Bk w own B0 vl vt L T) (hg : w.heap[bg]? = some (.cells #[a0, a1, a2, vl, vt] 42)) (hgm : own bg = .gm) (hv : vl = v) (hu : vt = u) (g8 : (w7.alloc o).grownBy w8 v.ownBlock) (x : Value) :
    Own clSl (w8.setCell ⟨bg, 3, none⟩ x) B0 29 u T := by
  subst hv hu
  refine hb.ot.chg fun k hk => ?_
  have hlt := (hb.ot.lt k hk).2
  rw [heap_setCell_other _ _ _ _ (by show k ≠ bg; intro e; have := hb.tt k hk; rw [e, hgm] at this; cases this), g8.block k (by simp; omega) (fun e => by have := hb.tl k e.symm; rw [hb.tt k hk] at this; cases this), Below.heap_alloc w7 o k (by omega), h7 k hlt (by rw [hb.tt k hk]; simp)]
theorem game10 {own : Ghost} {w w7 w8 w10 : World} {B0 bg : Nat} {a0 a1 a2 vl vt v u v8 : Value} {L T : List Sl} {o o' : Obj} (h7 : Old own w w7) (hs : w.heap.size ≤ w7.heap.size) (hb : Bk w own B0 vl vt L T) (hg : w.heap[bg]? = some (.cells #[a0, a1, a2, vl, vt] 42)) (hgm : own bg = .gm) (hv : vl = v) (hu : vt = u) (g8 : (w7.alloc o).grownBy w8 v.ownBlock) (g10 : ((w8.setCell ⟨bg, 3, none⟩ v8).alloc o').grownBy w10 u.ownBlock) :
    w10.heap[bg]? = some (.cells #[a0, a1, a2, v8, vt] 42) := by
  have g := game8 h7 hs hb hg hgm hv g8
  subst hv hu
  have hbl := lt_of_blk g
  rw [g10.block bg (by simp; omega) (fun e => by have := hb.tt bg e.symm; rw [hgm] at this; cases this), Below.heap_alloc _ o' bg (by simpa using hbl), heap_setCell_same _ _ _ _ _ _ g]
  rfl
set_option maxHeartbeats 4000000 in
theorem keep_any (bg : Nat) (a0 a1 a2 vl vt : Value) (w : World) (own : Ghost) (B0 B1 : Nat) (L T : List Sl) (hb : Bk w own B0 vl vt L T) (hg : w.heap[bg]? = some (.cells #[a0, a1, a2, vl, vt] 42)) (hgm : own bg = .gm) (hm : L.length ≤ 300000000)
    (v : Value) (xs : List It) (hv : Own clIt w B1 114 v xs) (hfree : TgV own v .free) (hn : xs.length ≤ 100000000) (hB0 : B0 ≤ w.heap.size) (hB1 : B1 ≤ w.heap.size) :
    Calls Tryz.prog 40 #[.pointer (some ⟨bg, 3, none⟩), v] w fun e w' => e = .returned (.tuple #[]) ∧ ∃ vl' vt' L' T' own', w'.heap[bg]? = some (.cells #[a0, a1, a2, vl', vt'] 42) ∧ Bk w' own' B0 vl' vt' L' T' ∧ L'.length = L.length + 1 ∧ Same w own own' ∧ Fr own (fun t => t = .gm ∨ t = .bL ∨ t = .bT) w w' := by
  obtain ⟨p, c, rfl, _, _, rv⟩ := hv.form
  obtain ⟨pl, cl, hvl, _, _, _⟩ := hb.ol.form
  obtain ⟨pt, ct, hvt, _, _, _⟩ := hb.ot.form
  obtain ⟨nl, hnl⟩ : ∃ n, L.length = n := ⟨_, rfl⟩
  obtain ⟨n, hnn⟩ : ∃ n, xs.length = n := ⟨_, rfl⟩
  have hbl := lt_of_blk hg
  rw [hnn] at hn
  rw [hnn] at hv hfree
  rw [hnn]
  rw [hnl] at hm hvl
  have c3 : w.cell? ⟨bg, 3, none⟩ = some (.slice pl nl cl) := by rw [cell_of_row _ _ _ _ _ _ hg, hvl]; rfl
  have HV : Hid (vl = .slice pl nl cl) := hvl
  have HB : Hid (Bk w own B0 vl vt L T) := hb
  have HG : Hid (w.heap[bg]? = some (.cells #[a0, a1, a2, vl, vt] 42)) := hg
  have HW : Hid (Own clIt w B1 114 (.slice p n c) xs) := hv
  have HF : Hid (TgV own (.slice p n c) .free) := hfree
  obtain ⟨nt, hnt⟩ : ∃ n, T.length = n := ⟨_, rfl⟩
  have hn9 : nt ≤ 900000000 := by have := hb.len; omega
  rw [hnt] at hvt
  have HR : Hid (vt = .slice pt nt ct) := hvt
  clear hb hg hv rv hvl hvt hfree
  go_enter Tryz.func40, Tryz.ntmps40
  go_wp2_with fail
  refine (mark_any nl _ (by omega) (by omega)).mono ?_
  rintro e w1 ⟨M, rfl, hM, hb1⟩
  clear c3
  go_wp2_with (first | (refine alloc_it rfl rfl ?_; intro Z hZ) | (refine store_it_new rfl _ _ rfl M _ _ rfl rfl (by simp) hM (by assumption) ?_))
  have G1 := below_alloc w1 (.cells M 114)
  have gM := heap_alloc_new w1 (.cells M 114)
  have hw1 := hb1.size
  obtain ⟨w2, hw2⟩ : ∃ w2, w2 = w1.alloc (.cells M 114) := ⟨_, rfl⟩
  rw [← hw2] at G1 gM ⊢
  have HB2 : Hid (Below w.heap.size w w2) := bnext hb1 G1
  clear hw2 G1 hb1
  go_loopw [5] (fun i wr => ∃ (k : Nat) (ys : List It), k ≤ n ∧ i = .int .i64 k ∧ ys.length = n ∧ ys.take k = List.replicate k (mk nl) ∧ Own clIt wr B1 114 (.slice p n c) ys ∧ w2.grownBy wr (Value.ownBlock (.slice p n c)) ∧ wr.heap[w1.heap.size]? = some (.cells M 114)) (fun i _ => n - (intOf i).toNat)
  case atStart => exact ⟨0, xs, by omega, rfl, hnn, by simp, HW.out.below HB2.out, ⟨rfl, rfl, rfl, Nat.le_refl _, fun _ _ _ => rfl⟩, gM⟩
  case round =>
    clear gM
    obtain ⟨k, ys, hk, rfl, hys, htk, hown, hgr, gM⟩ := hrel
    by_cases hlk : k < n
    · obtain ⟨b, off, rfl, hlt, _⟩ : ∃ b off, p = some ⟨b, off, none⟩ ∧ off = 0 ∧ b < w.heap.size := by
        have h := HW.out
        have h2 := fun q => (h.lt q)
        rcases h.2 with ⟨e, _⟩ | ⟨g, cap, cur, e, _⟩
        · cases e; omega
        · cases e; exact ⟨g, 0, rfl, rfl, (h2 g rfl).2⟩
      subst hlt
      rename_i hbw
      go_wp2_with (first | (refine load_it rfl _ rfl _ rfl M _ hM (by exact gM) ?_) | (refine store_it_own rfl _ _ rfl _ k _ _ _ _ M (mk nl) _ rfl rfl hM hown (by omega) (by omega) ?_; intro w3 ho3 hg3))
      go_roundw
      case rel =>
        refine ⟨k + 1, ys.set k (mk nl), by omega, by go_num, by simpa using hys, ?_, ho3, ⟨hg3.os.trans hgr.os, hg3.tape.trans hgr.tape, hg3.output.trans hgr.output, Nat.le_trans hgr.size hg3.size, fun j hj hne => (hg3.block j (Nat.lt_of_lt_of_le hj hgr.size) hne).trans (hgr.block j hj hne)⟩, ?_⟩
        · rw [List.take_succ, List.take_set_of_le (by omega), htk, List.getElem?_set_self (by omega), List.replicate_succ']; rfl
        · rw [hg3.block _ (lt_of_blk gM) (by intro e; have := Option.some.inj e; omega)]; exact gM
      case measure => simp [intOf]; omega
    · obtain rfl : k = n := by omega
      rw [List.take_of_length_le (by omega)] at htk
      subst htk
      have hv1 : Value.ownBlock (.slice p k c) ≠ some w1.heap.size := fun e => by have := (HW.out.lt _ e).2; omega
      have HN : Hid (Value.ownBlock (.slice p k c) ≠ some w1.heap.size) := hv1
      have ks : KS w1 w2 wr B1 (.slice p k c) k (mk nl) M := ⟨hown, hgr, gM⟩
      have HWS : wr.heap.size = wr.heap.size := rfl
      have hB1r : B1 ≤ wr.heap.size := Nat.le_trans hB1 (Nat.le_trans HB2.out.size hgr.size)
      clear hown hgr gM hys hlk hk hv1
      go_wp2_with (first | (refine load_it rfl _ rfl _ rfl M _ hM (by exact ks.gM) ?_) | (refine build1_it rfl _ rfl M _ hM rfl ?_; intro R1) | (at_builtin; refine append_it rfl _ _ rfl B1 _ _ rfl (by exact (ks.alloc _).own) _ 1 _ _ rfl rfl R1 (by omega) (by simp; omega) (by simp; omega) ?_; intro v1 w5 o1 h1 g1 t1 f1; obtain ⟨ks1, b1, c1, rfl, r1, l1, q1, st1, z1⟩ := app_step (j := 1) ks HN.out o1 rfl h1 g1 t1 f1; clear o1 h1 g1 t1 f1 R1 st1 ks) | (refine load_it rfl _ rfl _ rfl M _ hM (by exact ks1.gM) ?_) | (refine build2_it rfl _ _ rfl M _ hM rfl rfl ?_; intro R2) | (at_builtin; refine append_it rfl _ _ rfl B1 _ _ rfl (by exact (ks1.alloc _).own) _ 2 _ _ rfl rfl R2 (by omega) (by simp; omega) (by simp; omega) ?_; intro v2 w6 o2 h2 g2 t2 f2; obtain ⟨ks2, b2, c2, rfl, r2, l2, q2, st2, z2⟩ := app_step (j := 2) ks1 HN.out o2 rfl h2 g2 t2 f2; replace r1 := st2 _ _ r1 (by omega); clear o2 h2 g2 t2 f2 R2 st2 ks1) | (refine load_it rfl _ rfl _ rfl M _ hM (by exact ks2.gM) ?_) | (refine build3_it rfl _ _ _ rfl M _ hM rfl rfl rfl ?_; intro R3) | (at_builtin; refine append_it rfl _ _ rfl B1 _ _ rfl (by exact (ks2.alloc _).own) _ 3 _ _ rfl rfl R3 (by omega) (by simp; omega) (by simp; omega) ?_; intro v3 w7 o3 h3 g3 t3 f3; obtain ⟨ks3, b3, c3, rfl, r3, l3, q3, st3, z3⟩ := app_step (j := 3) ks2 HN.out o3 rfl h3 g3 t3 f3; replace r1 := st3 _ _ r1 (by omega); replace r2 := st3 _ _ r2 (by omega); clear o3 h3 g3 t3 f3 R3 st3 ks2; have H7 := kept_old HB2.out ks3.gr HF.out; have d3 := game_cell H7 HG.out hgm HV.out; have H7' : Hid (Old own w w7) := H7; clear H7; have W7 : w.heap.size ≤ w7.heap.size := Nat.le_trans HB2.out.size ks3.gr.size; have OL : Hid (Own clSl w7 B0 29 (.slice pl nl cl) L) := (by unfold Hid; rw [← HV.out]; exact H7'.out.own HB.out.ol HB.out.tl (by simp))) | (refine build1_sl rfl _ rfl ⟨p, k, c⟩ rfl ?_; intro S1) | (at_builtin; refine append_sl rfl _ _ rfl B0 (.slice pl nl cl) L rfl (by exact OL.out.below (below_alloc _ _)) _ 1 _ _ rfl rfl S1 (by omega) (by omega) (by simp; omega) ?_; intro v8 w8 o8 g8 t8 f8; have G8 := game8 H7'.out W7 HB.out HG.out hgm HV.out g8; have O9 := tails8 H7'.out W7 HB.out HG.out hgm HV.out HR.out g8; have O9' : Hid (∀ x, Own clSl (w8.setCell ⟨bg, 3, none⟩ x) B0 29 (.slice pt nt ct) T) := O9; clear O9; have d8 : w8.cell? ⟨bg, 3, none⟩ = some vl := (by rw [cell_of_row _ _ _ _ _ _ G8]; rfl); have z8 : w8.frozen? ⟨bg, 3, none⟩ = false := frozen_of_row _ _ _ _ _ G8; have d9 : ∀ x, (w8.setCell ⟨bg, 3, none⟩ x).cell? ⟨bg, 4, none⟩ = some (.slice pt nt ct) := (fun x => by rw [cell_of_row _ _ _ _ _ _ (heap_setCell_same _ _ _ _ _ _ G8)]; rw [← HR.out]; rfl); obtain ⟨b8, c8, e8⟩ := f8; subst e8; have O8 : Hid _ := o8; have GR8 : Hid _ := g8; have T8 : Hid _ := t8; have G8' : Hid _ := G8; clear o8 g8 t8 G8 S1) | (refine build3_sl rfl _ _ _ rfl ⟨some ⟨b1, 0, none⟩, k + 1, c1⟩ ⟨some ⟨b2, 0, none⟩, k + 2, c2⟩ ⟨some ⟨b3, 0, none⟩, k + 3, c3⟩ rfl rfl rfl ?_; intro S3) | (at_builtin; refine append_sl rfl _ _ rfl B0 (.slice pt nt ct) T rfl (by exact (O9'.out _).below (below_alloc _ _)) _ 3 _ _ rfl rfl S3 (by omega) (by omega) (by simp; have := GR8.out.size; simp at this; omega) ?_; intro v9 w10 o9 g9 t9 f9; have G10 := game10 H7'.out W7 HB.out HG.out hgm HV.out HR.out GR8.out g9; have d10 : w10.cell? ⟨bg, 4, none⟩ = some vt := (by rw [cell_of_row _ _ _ _ _ _ G10]; rfl); have z10 : w10.frozen? ⟨bg, 4, none⟩ = false := frozen_of_row _ _ _ _ _ G10; obtain ⟨b9, c9, e9⟩ := f9; subst e9; have O10 : Hid _ := o9; have GR9 : Hid _ := g9; have T9 : Hid _ := t9; clear o9 g9 t9 G10 S3))
      have e1 : (L ++ [(⟨p, k, c⟩ : Sl)]).length = nl + 1 := by simp [hnl]
      have e2 : (T ++ [(⟨some ⟨b1, 0, none⟩, k + 1, c1⟩ : Sl), ⟨some ⟨b2, 0, none⟩, k + 2, c2⟩, ⟨some ⟨b3, 0, none⟩, k + 3, c3⟩]).length = nt + 3 := by simp [hnt]
      have o8 := O8.out
      have t8 := T8.out
      have o9 := O10.out
      have t9 := T9.out
      rw [e1] at t8
      rw [e2] at t9
      have o8' : Own clSl w8 B0 29 (.slice (some ⟨b8, 0, none⟩) (nl + 1) c8) (L ++ [(⟨p, k, c⟩ : Sl)]) := by rw [← e1]; exact o8
      have o9' : Own clSl w10 B0 29 (.slice (some ⟨b9, 0, none⟩) (nt + 3) c9) (T ++ [(⟨some ⟨b1, 0, none⟩, k + 1, c1⟩ : Sl), ⟨some ⟨b2, 0, none⟩, k + 2, c2⟩, ⟨some ⟨b3, 0, none⟩, k + 3, c3⟩]) := by rw [← e2]; exact o9
      obtain ⟨p0, c0, hv0, _, _, r0⟩ := ks3.own.form
      rw [List.length_replicate] at hv0
      cases hv0
      have hh2 := HB2.out
      have Z : ∃ vl' vt' L' T' own', (w10.setCell ⟨bg, 4, none⟩ (.slice (some ⟨b9, 0, none⟩) (nt + 3) c9)).heap[bg]? = some (.cells #[a0, a1, a2, vl', vt'] 42) ∧ Bk (w10.setCell ⟨bg, 4, none⟩ (.slice (some ⟨b9, 0, none⟩) (nt + 3) c9)) own' B0 vl' vt' L' T' ∧ L'.length = L.length + 1 ∧ Same w own own' ∧ Fr own (fun t => t = .gm ∨ t = .bL ∨ t = .bT) w (w10.setCell ⟨bg, 4, none⟩ (.slice (some ⟨b9, 0, none⟩) (nt + 3) c9)) := by
        have g8 := GR8.out
        have g9 := GR9.out
        rw [← HV.out] at g8 t8
        rw [← HR.out] at g9 t9
        rw [← hnl] at r0 r1 r2 r3
        exact keep_done HB.out HG.out hgm HF.out hn rfl rfl rfl H7'.out W7 ⟨ks3.gr.os.trans hh2.os, ks3.gr.tape.trans hh2.tape, ks3.gr.output.trans hh2.output⟩ r0 (fun a ha => by subst ha; exact (HW.out.lt _ rfl).2) r1 r2 r3 (Nat.lt_of_lt_of_le l1 (Nat.le_trans z2 z3)) (Nat.lt_of_lt_of_le l2 z3) l3 (by rcases q1 with h | h; exact .inl h; exact .inr (Nat.le_trans hh2.size h)) (by rcases q2 with h | h; exact .inl h; exact .inr (Nat.le_trans hh2.size h)) (by rcases q3 with h | h; exact .inl h; exact .inr (Nat.le_trans hh2.size h)) o8' g8 t8 rfl o9' g9 t9 rfl
      obtain ⟨vl', vt', L', T', own', z1, z2, z3, z4, z5⟩ := Z
      exact bodyPost_end (results_none rfl _ _ _) rfl ⟨rfl, vl', vt', z1, L', T', own', z2, by rw [z3, hnl], z4, z5⟩
end Go.Proofs.YtpglbakcjihohaaGreat

/-! The tree: what is a tree, a node, a leaf, what is under what; the document's isNode, isLeaf, under, wrong, isRange, ahead, newer, IsTree, IsWidth, for every tree and number. -/
namespace Go.Proofs.YtpglbakcjihohaaGreat
open Go.RowKit
set_option maxRecDepth 100000

def isNd (t : List Int) (n : Int) : Bool := decide (0 ≤ n ∧ n < t.length)
def isLf (t : List Int) (n : Int) : Bool := decide (n ∉ t)
/-- The error of a call that wants a leaf. -/
def wrg (t : List Int) (n : Int) : Int := if isNd t n = true then (if isLf t n = true then 0 else 3) else 2
def und (t : List Int) (top : Int) : Nat → Int → Bool
  | 0, _ => false
  | f + 1, n => if n < 0 then false else if n = top then true else und t top f (t.getD n.toNat (-1))
def under (t : List Int) (n top : Int) : Bool := und t top (n.toNat + 1) n
/-- What a tree is. -/
structure Tree (t : List Int) : Prop where
  pos : 1 ≤ t.length
  le : t.length ≤ 8
  root : t.getD 0 0 = -1
  up : ∀ i, 1 ≤ i → i < t.length → 0 ≤ t.getD i 0 ∧ t.getD i 0 < i
theorem Tree.lt {t : List Int} (h : Tree t) (i : Nat) (hi : i < t.length) : -1 ≤ t.getD i (-1) ∧ t.getD i (-1) < i := by
  have e : t.getD i (-1) = t.getD i 0 := by simp [List.getD, List.getElem?_eq_getElem hi]
  rw [e]
  rcases Nat.eq_zero_or_pos i with rfl | hp
  · rw [h.root]; omega
  · have := h.up i hp hi; omega
theorem und_fuel (t : List Int) (top : Int) (h : Tree t) (f : Nat) : ∀ (n : Int), n < t.length → n.toNat + 1 ≤ f → und t top f n = und t top (n.toNat + 1) n := by
  induction f using Nat.strongRecOn with
  | ind f ih =>
    intro n hn hf
    obtain ⟨f, rfl⟩ : ∃ g, f = g + 1 := ⟨f - 1, by omega⟩
    by_cases h0 : n < 0
    · simp [und, h0]
    · by_cases e : n = top
      · simp only [und, if_neg h0, if_pos e]
      · have hl := h.lt n.toNat (by omega)
        simp only [und, if_neg h0, if_neg e]
        by_cases hz : t.getD n.toNat (-1) < 0
        · cases f with
          | zero => rw [show n.toNat = 0 by omega]
          | succ f =>
            cases hq : n.toNat with
            | zero => rw [hq] at hz; simp only [und, if_pos hz]
            | succ q => rw [hq] at hz; simp only [und, if_pos hz]
        · rw [ih f (by omega) _ (by omega) (by omega), ih n.toNat (by omega) _ (by omega) (by omega)]
theorem under_step {t : List Int} (h : Tree t) (n top : Int) (h0 : 0 ≤ n) (hn : n < t.length) (e : n ≠ top) : under t n top = under t (t.getD n.toNat (-1)) top := by
  have hl := h.lt n.toNat (by omega)
  unfold under
  rw [und, if_neg (by omega), if_neg e]
  by_cases hz : t.getD n.toNat (-1) < 0
  · rw [und, if_pos hz]
    cases hq : n.toNat with
    | zero => rfl
    | succ q => rw [hq] at hz; rw [und, if_pos hz]
  · rw [und_fuel t top h n.toNat _ (by omega) (by omega)]
theorem under_neg (t : List Int) (n top : Int) (h : n < 0) : under t n top = false := by simp [under, und, h]
theorem under_self (t : List Int) (n : Int) (h : 0 ≤ n) : under t n n = true := by simp [under, und, show ¬ n < 0 by omega]
theorem mem_take_succ (t : List Int) (k : Nat) (hk : k < t.length) (n : Int) : n ∉ t.take (k + 1) ↔ n ∉ t.take k ∧ t[k] ≠ n := by
  rw [List.take_add_one, List.getElem?_eq_getElem hk]
  simp only [Option.toList_some, List.mem_append, List.mem_singleton, not_or]
  exact ⟨fun ⟨a, b⟩ => ⟨a, fun e => b e.symm⟩, fun ⟨a, b⟩ => ⟨a, fun e => b e.symm⟩⟩

/-- The tree lies in the World's block. -/
structure TreeAt (w : World) (bw : Nat) (pt : Option Addr) (ct : Nat) (t : List Int) : Prop where
  cell : w.cell? ⟨bw, 0, none⟩ = some (.slice pt t.length ct)
  rows : RowsAt clInt w pt t
theorem TreeAt.below {w w' : World} {bw : Nat} {pt : Option Addr} {ct : Nat} {t : List Int} (h : TreeAt w bw pt ct t) (hb : Below w.heap.size w w') : TreeAt w' bw pt ct t := ⟨cell_keep hb h.cell, h.rows.below hb⟩

set_option maxHeartbeats 400000 in
theorem isNode_any (w : World) (bw : Nat) (pt : Option Addr) (ct : Nat) (t : List Int) (h : TreeAt w bw pt ct t) (n : Int) :
    Calls Tryz.prog 54 #[.pointer (some ⟨bw, 0, none⟩), .int .i64 n] w fun e w' => e = .returned (.bool (isNd t n)) ∧ w' = w := by
  obtain ⟨c1, _⟩ := h
  obtain ⟨N, hN'⟩ : ∃ N, t.length = N := ⟨_, rfl⟩
  rw [hN'] at c1
  by_cases h0 : 0 ≤ n
  · by_cases h1 : n < N
    · have H : Hid (isNd t n = true) := by unfold Hid isNd; rw [hN']; simp [h0, h1]
      go_enter Tryz.func54, Tryz.ntmps54
      go_wp2
      go_ret
      exact ⟨by rw [H.out]; rfl, rfl⟩
    · have H : Hid (isNd t n = false) := by unfold Hid isNd; rw [hN']; simp [h1]
      go_enter Tryz.func54, Tryz.ntmps54
      go_wp2
      go_ret
      exact ⟨by rw [H.out]; rfl, rfl⟩
  · have H : Hid (isNd t n = false) := by unfold Hid isNd; simp [h0]
    go_enter Tryz.func54, Tryz.ntmps54
    go_wp2
    go_ret
    exact ⟨by rw [H.out]; rfl, rfl⟩
set_option maxHeartbeats 400000 in
theorem isLeaf_any (w : World) (bw : Nat) (pt : Option Addr) (ct : Nat) (t : List Int) (h : TreeAt w bw pt ct t) (n : Int) (hN : t.length ≤ 8) :
    Calls Tryz.prog 75 #[.pointer (some ⟨bw, 0, none⟩), .int .i64 n] w fun e w' => e = .returned (.bool (isLf t n)) ∧ w' = w := by
  obtain ⟨c1, hr⟩ := h
  obtain ⟨N, hN'⟩ : ∃ N, t.length = N := ⟨_, rfl⟩
  rw [hN'] at c1 hN
  go_enter Tryz.func75, Tryz.ntmps75
  go_wp2
  go_loop [5] (fun i => ∃ k : Nat, k ≤ N ∧ i = .int .i64 k ∧ n ∉ t.take k) (fun i => N - (intOf i).toNat)
  case atStart => exact ⟨0, by omega, rfl, by simp⟩
  case round =>
    obtain ⟨k, hk, rfl, hnot⟩ := hrel
    have HN : Hid (n ∉ t.take k) := hnot
    clear hnot
    by_cases hlt : k < N
    · obtain ⟨b, off, rfl, _, d1⟩ := hr.int_at (Below.refl _ _) k (by omega)
      obtain ⟨x, hx⟩ : ∃ x, x = t[k] := ⟨_, rfl⟩
      rw [← hx] at d1
      by_cases e : x = n
      · have H : Hid (isLf t n = false) := by unfold Hid isLf; simp only [decide_eq_false_iff_not, Classical.not_not]; rw [← e, hx]; exact List.getElem_mem _
        clear hx
        subst e
        go_wp2
        go_ret
        exact ⟨by rw [H.out]; rfl, rfl⟩
      · have H : Hid (n ∉ t.take (k + 1)) := by unfold Hid; rw [mem_take_succ t k (by omega)]; exact ⟨HN.out, by rw [← hx]; exact e⟩
        clear hx
        go_wp2
        go_round
        case rel => exact ⟨k + 1, by omega, by go_num, H.out⟩
        case measure => simp [intOf]; omega
    · obtain rfl : k = N := by omega
      have H : Hid (isLf t n = true) := by unfold Hid isLf; have := HN.out; rw [List.take_of_length_le (by omega)] at this; simp [this]
      go_wp2
      go_ret
      exact ⟨by rw [H.out]; rfl, rfl⟩
set_option maxHeartbeats 400000 in
theorem under_any (w : World) (bw : Nat) (pt : Option Addr) (ct : Nat) (t : List Int) (h : TreeAt w bw pt ct t) (hT : Tree t) (n top : Int) (hn : n < t.length) :
    Calls Tryz.prog 76 #[.pointer (some ⟨bw, 0, none⟩), .int .i64 n, .int .i64 top] w fun e w' => e = .returned (.bool (under t n top)) ∧ w' = w := by
  obtain ⟨c1, hr⟩ := h
  have hN := hT.le
  have HT : Hid (Tree t) := hT
  clear hT
  obtain ⟨N, hN'⟩ : ∃ N, t.length = N := ⟨_, rfl⟩
  rw [hN'] at c1 hN hn
  go_enter Tryz.func76, Tryz.ntmps76
  go_wp2
  go_loop [1] (fun i => ∃ m : Int, m < N ∧ i = .int .i64 m ∧ under t m top = under t n top) (fun i => (intOf i + 1).toNat)
  case atStart => exact ⟨n, hn, rfl, rfl⟩
  case round =>
    obtain ⟨m, hm, rfl, hu⟩ := hrel
    have HU : Hid (under t m top = under t n top) := hu
    clear hu
    by_cases h0 : m < 0
    · have H : Hid (under t n top = false) := by unfold Hid; rw [← HU.out]; exact under_neg t m top h0
      go_wp2
      go_ret
      exact ⟨by rw [H.out]; rfl, rfl⟩
    · by_cases e : m = top
      · have H : Hid (under t n top = true) := by unfold Hid; rw [← HU.out, e]; exact under_self t top (by omega)
        subst e
        go_wp2
        go_ret
        exact ⟨by rw [H.out]; rfl, rfl⟩
      · obtain ⟨k, rfl⟩ : ∃ k : Nat, m = k := ⟨m.toNat, by omega⟩
        obtain ⟨b, off, rfl, _, d1⟩ := hr.int_at (Below.refl _ _) k (by omega)
        have hl := HT.out.lt k (by omega)
        have hg : t.getD k (-1) = t[k]'(by omega) := by simp [List.getD, List.getElem?_eq_getElem (show k < t.length by omega)]
        have hs : Hid (under t (t.getD k (-1)) top = under t n top) := by unfold Hid; rw [← HU.out, under_step HT.out k top (by omega) (by omega) e]; simp
        rw [← hg] at d1
        clear hg
        obtain ⟨x, hx⟩ : ∃ x, x = t.getD k (-1) := ⟨_, rfl⟩
        rw [← hx] at d1 hl hs
        clear hx
        go_wp2
        go_round
        case rel => exact ⟨x, by omega, rfl, hs.out⟩
        case measure => simp [intOf]; omega
set_option maxHeartbeats 400000 in
theorem wrong_any (w : World) (bw : Nat) (pt : Option Addr) (ct : Nat) (t : List Int) (h : TreeAt w bw pt ct t) (n : Int) (hN : t.length ≤ 8) :
    Calls Tryz.prog 47 #[.pointer (some ⟨bw, 0, none⟩), .int .i64 n] w fun e w' => e = .returned (.int .i64 (wrg t n)) ∧ w' = w := by
  have HTA : Hid (TreeAt w bw pt ct t) := h
  clear h
  by_cases h1 : isNd t n = true
  · by_cases h2 : isLf t n = true
    · have H : Hid (wrg t n = 0) := by unfold Hid wrg; rw [if_pos h1, if_pos h2]
      go_enter Tryz.func47, Tryz.ntmps47
      go_wp2_with (first | (go_at_call 54; refine (isNode_any _ _ pt ct t HTA.out _).mono ?_; rintro e w1 ⟨rfl, rfl⟩; rw [h1]) | (go_at_call 75; refine (isLeaf_any _ _ pt ct t HTA.out _ hN).mono ?_; rintro e w1 ⟨rfl, rfl⟩; rw [h2]))
      go_ret
      exact ⟨by rw [H.out]; rfl, rfl⟩
    · have H : Hid (wrg t n = 3) := by unfold Hid wrg; rw [if_pos h1, if_neg h2]
      have h2' : isLf t n = false := by simpa using h2
      go_enter Tryz.func47, Tryz.ntmps47
      go_wp2_with (first | (go_at_call 54; refine (isNode_any _ _ pt ct t HTA.out _).mono ?_; rintro e w1 ⟨rfl, rfl⟩; rw [h1]) | (go_at_call 75; refine (isLeaf_any _ _ pt ct t HTA.out _ hN).mono ?_; rintro e w1 ⟨rfl, rfl⟩; rw [h2']))
      go_ret
      exact ⟨by rw [H.out]; rfl, rfl⟩
  · have H : Hid (wrg t n = 2) := by unfold Hid wrg; rw [if_neg h1]
    have h1' : isNd t n = false := by simpa using h1
    go_enter Tryz.func47, Tryz.ntmps47
    go_wp2_with (first | (go_at_call 54; refine (isNode_any _ _ pt ct t HTA.out _).mono ?_; rintro e w1 ⟨rfl, rfl⟩; rw [h1']))
    go_ret
    exact ⟨by rw [H.out]; rfl, rfl⟩
def isRg (low high : Int) : Bool := decide (0 ≤ low ∧ high < 20 ∧ low ≤ high)
set_option maxHeartbeats 400000 in
theorem isRange_any (w : World) (low high : Int) :
    Calls Tryz.prog 71 #[.int .i64 low, .int .i64 high] w fun e w' => e = .returned (.bool (isRg low high)) ∧ w' = w := by
  by_cases h0 : 0 ≤ low
  · by_cases h1 : high < 20
    · by_cases h2 : low ≤ high
      · have H : Hid (isRg low high = true) := by unfold Hid isRg; simp [h0, h1, h2]
        go_enter Tryz.func71, Tryz.ntmps71
        go_wp2
        go_ret
        exact ⟨by rw [H.out]; rfl, rfl⟩
      · have H : Hid (isRg low high = false) := by unfold Hid isRg; simp [h2]
        go_enter Tryz.func71, Tryz.ntmps71
        go_wp2
        go_ret
        exact ⟨by rw [H.out]; rfl, rfl⟩
    · have H : Hid (isRg low high = false) := by unfold Hid isRg; simp [h1]
      go_enter Tryz.func71, Tryz.ntmps71
      go_wp2
      go_ret
      exact ⟨by rw [H.out]; rfl, rfl⟩
  · have H : Hid (isRg low high = false) := by unfold Hid isRg; simp [h0]
    go_enter Tryz.func71, Tryz.ntmps71
    go_wp2
    go_ret
    exact ⟨by rw [H.out]; rfl, rfl⟩
end Go.Proofs.YtpglbakcjihohaaGreat

/-! The document's store as plain things: events, leaves, nodes; what a leaf knows; their cells. -/
namespace Go.Proofs.YtpglbakcjihohaaGreat
open Go.RowKit
set_option maxRecDepth 100000

structure Ev3 where
  win : Int
  key : ByteArray
  v : Int
structure Ev3.Ok (e : Ev3) : Prop where
  win0 : 0 ≤ e.win
  win1 : e.win < 20
  key : e.key.size ≤ maxLen
  v0 : -2147483648 ≤ e.v
  v1 : e.v ≤ 2147483647
def Ev3.cells (e : Ev3) : List Value := [.int .i64 e.win, .string e.key, .int .i32 e.v]
abbrev clEv : Cl Ev3 := ⟨Ev3.cells, 3, by decide, fun _ => rfl, fun _ v hv => by
  simp only [Ev3.cells, List.mem_cons, List.not_mem_nil, or_false] at hv
  rcases hv with rfl | rfl | rfl <;> rfl⟩
theorem Ev3.clsize : clEv.size = 3 := rfl
theorem slEv : SlT Tryz.prog clEv 93 100 32 := ⟨Tryz.underlying93, by kernel_rfl⟩
def EvOk (l : List Ev3) : Prop := ∀ (i : Nat) (e : Ev3), l[i]? = some e → e.Ok

/-- The events of a window; their sketch; the item; what is known. -/
def evK (l : List Ev3) (k : Int) : List Ev3 := l.filter fun e => e.win == k
def skOf (l : List Ev3) : Sk := l.foldl (fun s e => mrg s (one e.key.data.toList e.v)) Sk.empty
def itOf (n : Int) (l : List Ev3) (cl : Nat → Bool) (k : Nat) : It := ⟨n, k, ((evK l k).length : Int), cl k, skOf (evK l k)⟩
def has (l : List Ev3) (cl : Nat → Bool) (k : Nat) : Bool := decide (0 < (evK l k).length) || cl k
def knownTo (n : Int) (l : List Ev3) (cl : Nat → Bool) (m : Nat) : List It := ((List.range m).filter (has l cl)).map (itOf n l cl)
def known (n : Int) (l : List Ev3) (cl : Nat → Bool) : List It := knownTo n l cl 20
theorem knownTo_yes (n : Int) (l : List Ev3) (cl : Nat → Bool) (m : Nat) (h : has l cl m = true) : knownTo n l cl (m + 1) = knownTo n l cl m ++ [itOf n l cl m] := by
  simp [knownTo, List.range_succ, List.filter_append, h]
theorem knownTo_no (n : Int) (l : List Ev3) (cl : Nat → Bool) (m : Nat) (h : has l cl m = false) : knownTo n l cl (m + 1) = knownTo n l cl m := by
  simp [knownTo, List.range_succ, List.filter_append, h]
theorem knownTo_len (n : Int) (l : List Ev3) (cl : Nat → Bool) (m : Nat) : (knownTo n l cl m).length ≤ m := by
  have := List.length_filter_le (has l cl) (List.range m)
  simpa [knownTo] using this
theorem evK_take_yes (l : List Ev3) (k : Int) (i : Nat) (e : Ev3) (h : l[i]? = some e) (hw : e.win = k) : evK (l.take (i + 1)) k = evK (l.take i) k ++ [e] := by
  unfold evK; rw [List.take_add_one, h]; simp [List.filter_append, hw]
theorem evK_take_no (l : List Ev3) (k : Int) (i : Nat) (e : Ev3) (h : l[i]? = some e) (hw : e.win ≠ k) : evK (l.take (i + 1)) k = evK (l.take i) k := by
  unfold evK; rw [List.take_add_one, h]; simp [List.filter_append, hw]
theorem skOf_append (l : List Ev3) (e : Ev3) : skOf (l ++ [e]) = mrg (skOf l) (one e.key.data.toList e.v) := by simp [skOf]
theorem skOf_ok : ∀ (l : List Ev3), (∀ e ∈ l, e.Ok) → (skOf l).Ok := by
  intro l
  suffices h : ∀ (l : List Ev3) (s : Sk), s.Ok → (∀ e ∈ l, e.Ok) → (l.foldl (fun s e => mrg s (one e.key.data.toList e.v)) s).Ok from h l _ Sk.empty_ok
  intro l
  induction l with
  | nil => intro s hs _; exact hs
  | cons e l ih =>
    intro s hs h
    have he := h e (by simp)
    exact ih _ (mrg_ok hs (one_ok _ _ he.v0 he.v1)) fun x hx => h x (by simp [hx])
theorem evK_ok {l : List Ev3} (h : EvOk l) (k : Int) (i : Nat) : ∀ e ∈ evK (l.take i) k, e.Ok := fun e he => by
  have h1 := (List.mem_filter.1 he).1
  obtain ⟨j, hj⟩ := List.getElem?_of_mem h1
  rw [List.getElem?_take] at hj
  split at hj
  · exact h j e hj
  · cases hj
theorem evK_len (l : List Ev3) (k : Int) : (evK l k).length ≤ l.length := List.length_filter_le _ _

/-- A leaf's state in memory. -/
structure LfC where
  ve : Sl
  cl : Nat → Bool
  mark : Int
def LfC.cells (c : LfC) : List Value := c.ve.val :: ((List.range 20).map fun k => .bool (c.cl k)) ++ [.int .i64 c.mark]
theorem LfC.len (c : LfC) : c.cells.length = 22 := by simp [LfC.cells]
theorem LfC.one (c : LfC) : ∀ v ∈ c.cells, v.oneCell' = true := fun v hv => by
  simp only [LfC.cells, List.cons_append, List.mem_cons, List.mem_append, List.mem_map, List.not_mem_nil, or_false] at hv
  rcases hv with rfl | ⟨k, _, rfl⟩ | rfl <;> rfl
abbrev clLf : Cl LfC := ⟨LfC.cells, 22, by decide, LfC.len, LfC.one⟩
def IsLfC (A : Array Value) (c : LfC) : Prop := A.toList = c.cells
theorem IsLfC.size {A : Array Value} {c : LfC} (h : IsLfC A c) : A.size = 22 := by have := congrArg List.length (show A.toList = c.cells from h); rw [LfC.len] at this; simpa using this
theorem LfC.get0 (c : LfC) : c.cells[0]? = some (.slice c.ve.p c.ve.n c.ve.c) := rfl
theorem LfC.getc (c : LfC) (k : Nat) (hk : k < 20) : c.cells[1 + k]? = some (.bool (c.cl k)) := by
  rw [Nat.add_comm]; simp only [LfC.cells, List.cons_append, List.getElem?_cons_succ]
  rw [List.getElem?_append_left (by simpa using hk)]; simp [hk]
theorem LfC.getm (c : LfC) : c.cells[21]? = some (.int .i64 c.mark) := by
  show (c.ve.val :: _ ++ _)[20 + 1]? = _
  rw [List.cons_append, List.getElem?_cons_succ, List.getElem?_append_right (by simp)]; simp
theorem IsLfC.get {A : Array Value} {c : LfC} (h : IsLfC A c) (i : Nat) : A[i]? = c.cells[i]? := by rw [← Array.getElem?_toList, show A.toList = c.cells from h]
end Go.Proofs.YtpglbakcjihohaaGreat

/-! Laws for items inside a region whose order is open; single fields of an item written over. -/
namespace Go.Proofs.YtpglbakcjihohaaGreat
open Go.RowKit
set_option maxRecDepth 100000

theorem set_list {A : Array Value} {i : Nat} {v : Value} : (A.setIfInBounds i v).toList = A.toList.set i v := by simp
theorem IsIt.setVer {A : Array Value} {x : It} (h : IsIt A x) (v : Int) : IsIt (A.setIfInBounds 2 (.int .i64 v)) { x with ver := v } := by
  show (A.setIfInBounds 2 _).toList = _
  rw [set_list, show A.toList = x.cells from h]; rfl
theorem IsIt.setFin {A : Array Value} {x : It} (h : IsIt A x) (b : Bool) : IsIt (A.setIfInBounds 3 (.bool b)) { x with fin := b } := by
  show (A.setIfInBounds 3 _).toList = _
  rw [set_list, show A.toList = x.cells from h]; rfl
theorem IsIt.setSk {A R : Array Value} {x : It} {s : Sk} (h : IsIt A x) (hR : IsSk R s) : IsIt (lay A 4 R.toList) { x with sk := s } := by
  show (lay A 4 R.toList).toList = _
  have e : R.toList.length = 28 := by simpa using hR.size
  simp only [lay, e, show A.toList = x.cells from h]
  have e2 : x.cells.drop (4 + 28) = [] := List.drop_of_length_le (by rw [It.len]; exact Nat.le_refl _)
  rw [e2, List.append_nil, show R = s.cells from hR]
  rfl
theorem IsIt.range4 {A : Array Value} {x : It} {w : World} {g : Nat} {t : TypeId} (h : IsIt A x) (hg : w.heap[g]? = some (.cells A t)) : w.rangeAt g 4 x.sk.cells.toList := fun j v hv => by
  rw [cell_of_row _ _ _ _ _ _ hg, h.get4 j]; simpa using hv
theorem built_it4 (n k : Int) (b : Bool) (s : Sk) : Tryz.prog.built 114 [(0, .int .i64 n), (1, .int .i64 k), (3, .bool b), (4, .agg s.cells)] = some (It.mk n k 0 b s).cells.toArray := by kernel_rfl
theorem info_sk' (s : Sk) : (Tryz.prog.info? 81).map (·.size) = some s.cells.toList.length := by rw [Array.length_toList, s.size_cells]; kernel_rfl

section
variable {ops : Array Oper} {i : Nat} {o : Oper} {a : Act} {w : World} {K : Act → World → Prop} {Q : Exit → Act → World → Prop} {S : World → Prop} {rest : List Oper}
theorem wpOp_of_wp (hi : ops[i]? = some o) (hg : o.guard = none) (h : o.wp Tryz.prog a w K Q) : wpOp Tryz.prog ops Q i K a w := by
  unfold wpOp
  simp only [hi, Region.wanted, hg, if_true]
  exact .inl h
theorem wpOp_alloc_it (hi : ops[i]? = some o) (hg : o.guard = none) (ho : o.op = .alloc 114)
    (h : ∀ Z, IsIt Z It.zero → K (a.put o.dst (.pointer (some ⟨w.heap.size, 0, none⟩))) (w.alloc (.cells Z 114))) : wpOp Tryz.prog ops Q i K a w :=
  wpOp_of_wp hi hg (by
    have hz' : (zeroValue 114).run Tryz.prog w = .ok (.agg It.zero.cells.toArray) w := by
      have hz := zero_it
      cases hq : Tryz.prog.info? 114 with
      | none => simp [hq] at hz
      | some i => simp [hq] at hz; simp [zeroValue, typeInfo, hq, hz]
    unfold Oper.wp execOp
    simp only [ho, Instr.alloc, Sem.run_bind, hz', Result.andThen_ok, newVar, newRow, newObj, Sem.run_pure]
    exact h _ (isIt_of _))
theorem wpOp_build_it (hi : ops[i]? = some o) (hg : o.guard = none) (parts : Array (Nat × Operand)) (ho : o.op = .build 114 parts) (x : It)
    (hz : Tryz.prog.built 114 (parts.map fun (i, x) => (i, a.eval x)).toList = some x.cells.toArray)
    (h : ∀ M, IsIt M x → K (a.put o.dst (.agg M)) w) : wpOp Tryz.prog ops Q i K a w :=
  wpOp_of_wp hi hg (by
    have hw := wp_build (P := Tryz.prog) (o := o) (a := a) (w := w) (K := K) (Q := Q) 114 parts ho (by rw [hz]; rfl) (by rw [hz]; exact h _ (isIt_of _))
    exact hw)
theorem wpOp_store_it {c : Array Value} {g : Nat} (hi : ops[i]? = some o) (hg : o.guard = none) (x y : Operand) (ho : o.op = .store 114 x y) (A : Array Value) (s : It)
    (hx : a.eval x = .pointer (some ⟨g, 0, none⟩)) (hy : a.eval y = .agg A) (hA : IsIt A s) (hgg : w.heap[g]? = some (.cells c 114)) (hc : c.size = 32)
    (h : K (a.put o.dst undef) (w.setRow g A)) : wpOp Tryz.prog ops Q i K a w :=
  wpOp_of_wp hi hg (wp_store_row _ x y ho g A hx hy _ c hgg (info_it hA) (by rw [hA.size, hc]) hA.one h)
/-- A sketch into an item's field. -/
theorem wp_store_sk4 {c : Array Value} {g : Nat} {z : It} (x y : Operand) (ho : o.op = .store 81 x y) (R : Array Value) (s : Sk)
    (hx : a.eval x = .pointer (some ⟨g, 4, none⟩)) (hy : a.eval y = .agg R) (hR : IsSk R s) (hgg : w.heap[g]? = some (.cells c 114)) (hc : IsIt c z)
    (h : ∀ M, IsIt M { z with sk := s } → K (a.put o.dst undef) (w.setRow g M)) : o.wp Tryz.prog a w K Q :=
  wp_store_lay 81 x y ho g 4 R hx hy _ c hgg (info_sk hR) (by rw [hR.size, hc.size]; decide) hR.one (h _ (hc.setSk hR))
theorem store_sk4 {c : Array Value} {g : Nat} {z : It} (hgd : o.guard = none) (x y : Operand) (ho : o.op = .store 81 x y) (R : Array Value) (s : Sk)
    (hx : a.eval x = .pointer (some ⟨g, 4, none⟩)) (hy : a.eval y = .agg R) (hR : IsSk R s) (hgg : w.heap[g]? = some (.cells c 114)) (hc : IsIt c z)
    (h : ∀ M, IsIt M { z with sk := s } → wpList Tryz.prog ops Q rest (a.put o.dst undef) (w.setRow g M)) : wpList Tryz.prog ops Q (o :: rest) a w :=
  wpList_plain hgd fun _ hK => wp_store_sk4 x y ho R s hx hy hR hgg hc fun M hM => hK _ _ (h M hM)
theorem yieldsIf_load_sk_mid (hw : Region.wanted o (yielded ops a.tmps) = true) (x : Operand) (ho : o.op = .load 81 x) (g off : Nat) (hx : a.eval x = .pointer (some ⟨g, off, none⟩)) (A : Array Value) (s : Sk) (hA : IsSk A s)
    (hS : ∀ w, S w → w.rangeAt g off s.cells.toList) : YieldsIf Tryz.prog ops S o (.agg A) a := by
  have e : A = s.cells.toList.toArray := by rw [show A = s.cells from hA]
  rw [e]
  exact yieldsIf_load_mid hw _ x ho g off hx s.cells.toList _ hS Tryz.underlying81 rfl (info_sk' s)
theorem wp_load_sk_mid (x : Operand) (ho : o.op = .load 81 x) (g off : Nat) (hx : a.eval x = .pointer (some ⟨g, off, none⟩)) (s : Sk)
    (hg : w.rangeAt g off s.cells.toList) (h : ∀ A, IsSk A s → K (a.put o.dst (.agg A)) w) : o.wp Tryz.prog a w K Q :=
  wp_load_mid _ x ho g off hx s.cells.toList _ hg Tryz.underlying81 rfl (info_sk' s) (h _ (by simp [IsSk]))
theorem load_sk_mid (hgd : o.guard = none) (x : Operand) (ho : o.op = .load 81 x) (g off : Nat) (hx : a.eval x = .pointer (some ⟨g, off, none⟩)) (s : Sk)
    (hg : w.rangeAt g off s.cells.toList) (h : ∀ A, IsSk A s → wpList Tryz.prog ops Q rest (a.put o.dst (.agg A)) w) : wpList Tryz.prog ops Q (o :: rest) a w :=
  wpList_load_mid hgd _ x ho g off hx s.cells.toList _ hg Tryz.underlying81 rfl (info_sk' s) (h _ (by simp [IsSk]))
end
end Go.Proofs.YtpglbakcjihohaaGreat

/-! 'known': a leaf's items, for every leaf's state. -/
namespace Go.Proofs.YtpglbakcjihohaaGreat
open Go.RowKit
set_option maxRecDepth 100000

theorem cell_setRow {w : World} {g : Nat} {A : Array Value} {p : Addr} {v : Value} (hne : p.block ≠ g) (h : w.cell? p = some v) : (w.setRow g A).cell? p = some v := by
  rw [World.cell?_of_block (w := w) (setRow_other w g p.block A hne)]; exact h
theorem built_it4' (n k : Int) (b : Bool) {E : Array Value} {s : Sk} (hE : IsSk E s) : Tryz.prog.built 114 [(0, .int .i64 n), (1, .int .i64 k), (3, .bool b), (4, .agg E)] = some (It.mk n k 0 b s).cells.toArray := by
  rw [show E = s.cells from hE]; exact built_it4 n k b s
theorem known_b {w wr w5 : World} {u7 : Value} {ks : List It} {A : Array Value} {o : Obj} {t : TypeId} (hB : Below w.heap.size w wr) (ho : Own clIt wr (w.heap.size + 1) 114 u7 ks) (gA : wr.heap[w.heap.size]? = some (.cells A t)) (hg : (wr.alloc o).grownBy w5 u7.ownBlock) :
    Below w.heap.size w w5 ∧ w5.heap[w.heap.size]? = some (.cells A t) := by
  have h1 := bnext hB (below_alloc wr o)
  refine ⟨h1.trans (grown_below hg _ h1.size fun k hk => by have := (ho.lt k hk).1; omega), ?_⟩
  rw [hg.block _ (by have := lt_of_blk gA; simp; omega) (fun e => by have := (ho.lt _ e.symm).1; omega)]
  exact blk_old gA
set_option maxHeartbeats 4000000 in
theorem known_any (bw : Nat) (n : Int) (hn : fitsI n) (c : LfC) (A : Array Value) (hA : IsLfC A c) (w : World) (l : List Ev3) (hl : l.length = c.ve.n) (hr : RowsAt clEv w c.ve.p l) (hok : EvOk l) (hm : c.ve.n ≤ 1000000000) :
    Calls Tryz.prog 89 #[.pointer (some ⟨bw, 0, none⟩), .int .i64 n, .agg A] w fun e w' => ∃ v, e = .returned v ∧ Own clIt w' w.heap.size 114 v (known n l c.cl) ∧ Below w.heap.size w w' := by
  obtain ⟨⟨p, m, cp⟩, cl, mark⟩ := c
  have HR : Hid (RowsAt clEv w p l) := hr
  have HO : Hid (EvOk l) := hok
  have HA : Hid (IsLfC A ⟨⟨p, m, cp⟩, cl, mark⟩) := hA
  have hl' : l.length = m := hl
  have hm' : m ≤ 1000000000 := hm
  clear hr hok hA hl hm
  show Calls Tryz.prog 89 #[.pointer (some ⟨bw, 0, none⟩), .int .i64 n, .agg A] w fun e w' => ∃ v, e = .returned v ∧ Own clIt w' w.heap.size 114 v (known n l cl) ∧ Below w.heap.size w w'
  go_enter Tryz.func89, Tryz.ntmps89
  go_wp2
  go_loopw [7, 8] (fun v7 i wr => ∃ k : Nat, k ≤ 20 ∧ i = .int .i64 k ∧ Own clIt wr (w.heap.size + 1) 114 v7 (knownTo n l cl k) ∧ Below w.heap.size w wr ∧ wr.heap[w.heap.size]? = some (.cells A 96)) (fun _ i _ => 20 - (intOf i).toNat)
  case atStart => exact ⟨0, by omega, rfl, by simpa [knownTo] using Own.nil _ _ _, below_alloc _ _, heap_alloc_new _ _⟩
  case round =>
    obtain ⟨k, hk, rfl, hown, hB, gA⟩ := hrel
    rename World => W
    by_cases hlk : k < 20
    · have d1 : W.cell? ⟨w.heap.size, 1 + k, none⟩ = some (.bool (cl k)) := by rw [cell_of_row _ _ _ _ _ _ gA, HA.out.get]; exact LfC.getc _ k hlk
      go_upto_region 5 with fail
      go_cut [9] (fun s9 wx => ∃ (g : Nat) (M : Array Value), s9 = .pointer (some ⟨g, 0, none⟩) ∧ wx.heap[g]? = some (.cells M 114) ∧ IsIt M ⟨n, k, 0, cl k, Sk.empty⟩ ∧ W.heap.size ≤ g ∧ Below W.heap.size W wx)
      case first =>
        have hS0 : (fun w' : World => w'.cell? ⟨w.heap.size, 1 + k, none⟩ = some (.bool (cl k)) ∧ Hid (Below W.heap.size W w')) W.drew := ⟨d1, (Below.refl _ _).drew⟩
        have hw0 := lt_of_blk gA
        have k0 : (0 : Int) ≤ (k : Int) := by omega
        have k1 : (k : Int) < 20 := by omega
        clear d1
        refine wp_region_held (S := fun w' : World => w'.cell? ⟨w.heap.size, 1 + k, none⟩ = some (.bool (cl k)) ∧ Hid (Below W.heap.size W w')) mixed ?_
        refine wpAnyH_take (i := 0) (v := (.int .i64 n)) rfl (by kernel_rfl) (by kernel_rfl) (by kernel_rfl) (fun _ _ _ h => h) (Or.inl ⟨by rfl, fun wx hx => by go_simp⟩) hS0 ?_
        try dsimp only
        try simp only [Act.put, List.getElem_toArray, List.getElem_cons_succ, List.getElem_cons_zero, List.setIfInBounds_toArray, List.set_cons_zero, List.set_cons_succ]
        refine wpAnyH_take (i := 1) (v := (.int .i64 k)) rfl (by kernel_rfl) (by kernel_rfl) (by kernel_rfl) (fun _ _ _ h => h) (Or.inl ⟨by rfl, fun wx hx => by go_simp⟩) hS0 ?_
        try dsimp only
        try simp only [Act.put, List.getElem_toArray, List.getElem_cons_succ, List.getElem_cons_zero, List.setIfInBounds_toArray, List.set_cons_zero, List.set_cons_succ]
        refine wpAnyH_take (i := 2) (v := (.int .i64 k)) rfl (by kernel_rfl) (by kernel_rfl) (by kernel_rfl) (fun _ _ _ h => h) (Or.inl ⟨by rfl, fun wx hx => by go_simp⟩) hS0 ?_
        try dsimp only
        try simp only [Act.put, List.getElem_toArray, List.getElem_cons_succ, List.getElem_cons_zero, List.setIfInBounds_toArray, List.set_cons_zero, List.set_cons_succ]
        refine wpAnyH_take (i := 3) (v := (.pointer (some ⟨w.heap.size, 1, none⟩))) rfl (by kernel_rfl) (by kernel_rfl) (by kernel_rfl) (fun _ _ _ h => h) (Or.inl ⟨by rfl, fun wx hx => by go_simp⟩) hS0 ?_
        try dsimp only
        try simp only [Act.put, List.getElem_toArray, List.getElem_cons_succ, List.getElem_cons_zero, List.setIfInBounds_toArray, List.set_cons_zero, List.set_cons_succ]
        refine wpAnyH_take (i := 4) (v := (.pointer (some ⟨w.heap.size, 1 + k, none⟩))) rfl (by kernel_rfl) (by kernel_rfl) (by kernel_rfl) (fun _ _ _ h => h) (Or.inl ⟨by rfl, fun wx hx => by go_simp⟩) hS0 ?_
        try dsimp only
        try simp only [Act.put, List.getElem_toArray, List.getElem_cons_succ, List.getElem_cons_zero, List.setIfInBounds_toArray, List.set_cons_zero, List.set_cons_succ]
        refine wpAnyH_take (i := 5) (v := (.bool (cl k))) rfl (by kernel_rfl) (by kernel_rfl) (by kernel_rfl) (fun _ _ _ h => h) (Or.inl ⟨by rfl, fun wx hx => by have hx1 := hx.1; go_simp⟩) hS0 ?_
        try dsimp only
        try simp only [Act.put, List.getElem_toArray, List.getElem_cons_succ, List.getElem_cons_zero, List.setIfInBounds_toArray, List.set_cons_zero, List.set_cons_succ]
        refine wpAnyH_all (rs := [6, 8]) (by kernel_rfl) (by simp) ?_
        intro j hj
        simp only [List.mem_cons, List.not_mem_nil, or_false] at hj
        rcases hj with rfl | rfl
        · skip
          refine wpOp_of_wp rfl rfl ?_
          go_simp
          refine (rempty_any _).mono ?_
          rintro e w6 ⟨E, rfl, hE, hb6⟩
          have hS6 : (fun w' : World => w'.cell? ⟨w.heap.size, 1 + k, none⟩ = some (.bool (cl k)) ∧ Hid (Below W.heap.size W w')) w6 := ⟨cell_keep hb6 hS0.1, bnext hS0.2 hb6⟩
          refine ⟨hS6, ?_⟩
          try dsimp only
          try simp only [Act.put, List.getElem_toArray, List.getElem_cons_succ, List.getElem_cons_zero, List.setIfInBounds_toArray, List.set_cons_zero, List.set_cons_succ]
          refine wpAnyH_all (rs := [7, 8]) (by kernel_rfl) (by simp) ?_
          intro j hj
          simp only [List.mem_cons, List.not_mem_nil, or_false] at hj
          rcases hj with rfl | rfl
          · skip
            refine wpOp_build_it rfl rfl _ rfl ⟨n, k, 0, cl k, Sk.empty⟩ (by refine Eq.trans ?_ (built_it4' n k (cl k) hE); kernel_rfl) ?_
            intro M hM
            refine ⟨hS6, ?_⟩
            try dsimp only
            try simp only [Act.put, List.getElem_toArray, List.getElem_cons_succ, List.getElem_cons_zero, List.setIfInBounds_toArray, List.set_cons_zero, List.set_cons_succ]
            refine wpAnyH_all (rs := [8]) (by kernel_rfl) (by simp) ?_
            intro j hj
            simp only [List.mem_cons, List.not_mem_nil, or_false] at hj
            subst hj
            refine wpOp_alloc_it rfl rfl rfl ?_
            intro Z hZ
            have hS7 : (fun w' : World => w'.cell? ⟨w.heap.size, 1 + k, none⟩ = some (.bool (cl k)) ∧ Hid (Below W.heap.size W w')) (w6.alloc (.cells Z 114)) := ⟨cell_keep (below_alloc _ _) hS6.1, bnext hS6.2 (below_alloc _ _)⟩
            refine ⟨hS7, ?_⟩
            try dsimp only
            try simp only [Act.put, List.getElem_toArray, List.getElem_cons_succ, List.getElem_cons_zero, List.setIfInBounds_toArray, List.set_cons_zero, List.set_cons_succ]
            refine wpAnyH_all (rs := [9]) (by kernel_rfl) (by simp) ?_
            intro j hj
            simp only [List.mem_cons, List.not_mem_nil, or_false] at hj
            subst hj
            have gZ := heap_alloc_new w6 (.cells Z 114)
            have gl : W.heap.size ≤ _ := hS6.2.size
            refine wpOp_store_it rfl rfl _ _ rfl M _ rfl rfl hM gZ hZ.size ?_
            refine ⟨⟨cell_setRow (by show w.heap.size ≠ _; omega) hS7.1, below_setRow _ hS7.2 gl⟩, ?_⟩
            try dsimp only
            try simp only [Act.put, List.getElem_toArray, List.getElem_cons_succ, List.getElem_cons_zero, List.setIfInBounds_toArray, List.set_cons_zero, List.set_cons_succ]
            refine wpAnyH_done (by kernel_rfl) ?_ _
            go_wp2_with fail
            go_meet
            exact ⟨_, M, rfl, setRow_blk gZ, hM, gl, below_setRow _ hS7.2 gl⟩
          · skip
            refine wpOp_alloc_it rfl rfl rfl ?_
            intro Z hZ
            have hS7 : (fun w' : World => w'.cell? ⟨w.heap.size, 1 + k, none⟩ = some (.bool (cl k)) ∧ Hid (Below W.heap.size W w')) (w6.alloc (.cells Z 114)) := ⟨cell_keep (below_alloc _ _) hS6.1, bnext hS6.2 (below_alloc _ _)⟩
            refine ⟨hS7, ?_⟩
            try dsimp only
            try simp only [Act.put, List.getElem_toArray, List.getElem_cons_succ, List.getElem_cons_zero, List.setIfInBounds_toArray, List.set_cons_zero, List.set_cons_succ]
            refine wpAnyH_all (rs := [7]) (by kernel_rfl) (by simp) ?_
            intro j hj
            simp only [List.mem_cons, List.not_mem_nil, or_false] at hj
            subst hj
            refine wpOp_build_it rfl rfl _ rfl ⟨n, k, 0, cl k, Sk.empty⟩ (by refine Eq.trans ?_ (built_it4' n k (cl k) hE); kernel_rfl) ?_
            intro M hM
            refine ⟨hS7, ?_⟩
            try dsimp only
            try simp only [Act.put, List.getElem_toArray, List.getElem_cons_succ, List.getElem_cons_zero, List.setIfInBounds_toArray, List.set_cons_zero, List.set_cons_succ]
            refine wpAnyH_all (rs := [9]) (by kernel_rfl) (by simp) ?_
            intro j hj
            simp only [List.mem_cons, List.not_mem_nil, or_false] at hj
            subst hj
            have gZ := heap_alloc_new w6 (.cells Z 114)
            have gl : W.heap.size ≤ _ := hS6.2.size
            refine wpOp_store_it rfl rfl _ _ rfl M _ rfl rfl hM gZ hZ.size ?_
            refine ⟨⟨cell_setRow (by show w.heap.size ≠ _; omega) hS7.1, below_setRow _ hS7.2 gl⟩, ?_⟩
            try dsimp only
            try simp only [Act.put, List.getElem_toArray, List.getElem_cons_succ, List.getElem_cons_zero, List.setIfInBounds_toArray, List.set_cons_zero, List.set_cons_succ]
            refine wpAnyH_done (by kernel_rfl) ?_ _
            go_wp2_with fail
            go_meet
            exact ⟨_, M, rfl, setRow_blk gZ, hM, gl, below_setRow _ hS7.2 gl⟩
        · skip
          refine wpOp_alloc_it rfl rfl rfl ?_
          intro Z hZ
          have hS1 : (fun w' : World => w'.cell? ⟨w.heap.size, 1 + k, none⟩ = some (.bool (cl k)) ∧ Hid (Below W.heap.size W w')) (W.drew.alloc (.cells Z 114)) := ⟨cell_keep (below_alloc _ _) hS0.1, bnext hS0.2 (below_alloc _ _)⟩
          refine ⟨hS1, ?_⟩
          try dsimp only
          try simp only [Act.put, List.getElem_toArray, List.getElem_cons_succ, List.getElem_cons_zero, List.setIfInBounds_toArray, List.set_cons_zero, List.set_cons_succ]
          refine wpAnyH_all (rs := [6]) (by kernel_rfl) (by simp) ?_
          intro j hj
          simp only [List.mem_cons, List.not_mem_nil, or_false] at hj
          subst hj
          refine wpOp_of_wp rfl rfl ?_
          go_simp
          refine (rempty_any _).mono ?_
          rintro e w6 ⟨E, rfl, hE, hb6⟩
          have hS6 : (fun w' : World => w'.cell? ⟨w.heap.size, 1 + k, none⟩ = some (.bool (cl k)) ∧ Hid (Below W.heap.size W w')) w6 := ⟨cell_keep hb6 hS1.1, bnext hS1.2 hb6⟩
          refine ⟨hS6, ?_⟩
          try dsimp only
          try simp only [Act.put, List.getElem_toArray, List.getElem_cons_succ, List.getElem_cons_zero, List.setIfInBounds_toArray, List.set_cons_zero, List.set_cons_succ]
          refine wpAnyH_all (rs := [7]) (by kernel_rfl) (by simp) ?_
          intro j hj
          simp only [List.mem_cons, List.not_mem_nil, or_false] at hj
          subst hj
          refine wpOp_build_it rfl rfl _ rfl ⟨n, k, 0, cl k, Sk.empty⟩ (by refine Eq.trans ?_ (built_it4' n k (cl k) hE); kernel_rfl) ?_
          intro M hM
          refine ⟨hS6, ?_⟩
          try dsimp only
          try simp only [Act.put, List.getElem_toArray, List.getElem_cons_succ, List.getElem_cons_zero, List.setIfInBounds_toArray, List.set_cons_zero, List.set_cons_succ]
          refine wpAnyH_all (rs := [9]) (by kernel_rfl) (by simp) ?_
          intro j hj
          simp only [List.mem_cons, List.not_mem_nil, or_false] at hj
          subst hj
          have gZ := keep hb6 (heap_alloc_new W.drew (.cells Z 114))
          have gl : W.heap.size ≤ _ := Nat.le_refl _
          refine wpOp_store_it rfl rfl _ _ rfl M _ rfl rfl hM gZ hZ.size ?_
          refine ⟨⟨cell_setRow (by show w.heap.size ≠ _; omega) hS6.1, below_setRow _ hS6.2 gl⟩, ?_⟩
          try dsimp only
          try simp only [Act.put, List.getElem_toArray, List.getElem_cons_succ, List.getElem_cons_zero, List.setIfInBounds_toArray, List.set_cons_zero, List.set_cons_succ]
          refine wpAnyH_done (by kernel_rfl) ?_ _
          go_wp2_with fail
          go_meet
          exact ⟨_, M, rfl, setRow_blk gZ, hM, gl, below_setRow _ hS6.2 gl⟩
      case rest =>
        clear d1
        obtain ⟨g, M, rfl, gM, hM, hg, hBx⟩ := hcut
        have hw0 := lt_of_blk gA
        go_wp2
        go_loopw [10] (fun i wx => ∃ (j : Nat) (M : Array Value), j ≤ m ∧ i = .int .i64 j ∧ wx.heap[g]? = some (.cells M 114) ∧ IsIt M ⟨n, k, ((evK (l.take j) k).length : Int), cl k, skOf (evK (l.take j) k)⟩ ∧ Below W.heap.size W wx) (fun i _ => m - (intOf i).toNat)
        case atStart => exact ⟨0, M, by omega, rfl, gM, by simpa [evK, skOf] using hM, hBx⟩
        case round =>
          clear gM hM hBx
          obtain ⟨j, M, hj, rfl, gM, hM, hBx⟩ := hrel
          have d0 : wr.cell? ⟨w.heap.size, 0, none⟩ = some (.slice p m cp) := by rw [cell_of_row _ _ _ _ _ _ (keep hBx gA), HA.out.get]; rfl
          by_cases hlj : j < m
          · obtain ⟨⟨ew, key, v⟩, he⟩ : ∃ e, l[j]? = some e := ⟨_, List.getElem?_eq_getElem (by omega)⟩
            obtain ⟨b, off, rfl, hlt, hc⟩ := HR.out.pos j (by omega)
            have hBw := hB.trans (hBx.mono hB.size)
            have rg := range_below hBw hlt (hc j _ he)
            have y0 : wr.cell? ⟨b, off + j * 3, none⟩ = some (.int .i64 ew) := rg 0 _ rfl
            have y1 : wr.cell? ⟨b, off + j * 3 + 1, none⟩ = some (.string key) := rg 1 _ rfl
            have y2 : wr.cell? ⟨b, off + j * 3 + 2, none⟩ = some (.int .i32 v) := rg 2 _ rfl
            clear rg hc
            have oke := HO.out j _ he
            have hlen := evK_len (l.take j) k
            have hlt2 : (l.take j).length ≤ j := by simp; omega
            by_cases hw : ew = k
            · subst hw
              have e2 := evK_take_yes l k j _ he rfl
              have e3 : Hid (skOf (evK (l.take (j + 1)) k) = mrg (skOf (evK (l.take j) k)) (one key.data.toList v)) := by unfold Hid; rw [e2, skOf_append]
              have okS := skOf_ok _ (evK_ok HO.out k j)
              have l0 := oke.key
              have v0 := oke.v0
              have v1 := oke.v1
              obtain ⟨cnt, hcnt⟩ : ∃ cnt : Nat, (evK (l.take j) k).length = cnt := ⟨_, rfl⟩
              have e4 : Hid ((evK (l.take (j + 1)) k).length = cnt + 1) := by unfold Hid; rw [e2, List.length_append, hcnt]; rfl
              rw [hcnt] at hM hlen
              have c2 : wr.cell? ⟨g, 2, none⟩ = some (.int .i64 cnt) := by rw [cell_of_row _ _ _ _ _ _ gM]; exact hM.get2
              have f2 : wr.frozen? ⟨g, 2, none⟩ = false := frozen_of_row _ _ _ _ _ gM
              have HM : Hid (IsIt M ⟨n, k, (cnt : Int), cl k, skOf (evK (l.take j) k)⟩) := hM
              have ec : IntKind.i64.wrap ((cnt : Int) + 1) = (cnt : Int) + 1 := IntWalk.i64_in _ ⟨by omega, by omega⟩
              clear oke e2 hM hcnt
              go_upto_region 11 with fail
              obtain ⟨wy, hwy⟩ : ∃ wy, wy = wr.setCell ⟨g, 2, none⟩ (.int .i64 ((cnt : Int) + 1)) := ⟨_, rfl⟩
              rw [← hwy]
              have gy : wy.heap[g]? = some (.cells (M.setIfInBounds 2 (.int .i64 ((cnt : Int) + 1))) 114) := by rw [hwy]; exact heap_setCell_same _ _ _ _ _ _ gM
              have hM1 := HM.out.setVer ((cnt : Int) + 1)
              have hgw : w.heap.size ≠ g := by omega
              have hbg0 : b ≠ g := by omega
              have z0 : wy.cell? ⟨w.heap.size, 0, none⟩ = some (.slice (some ⟨b, off, none⟩) m cp) := by rw [hwy]; exact cell_set hgw d0
              have z1 : wy.cell? ⟨b, off + j * 3 + 1, none⟩ = some (.string key) := by rw [hwy]; exact cell_set hbg0 y1
              have z2 : wy.cell? ⟨b, off + j * 3 + 2, none⟩ = some (.int .i32 v) := by rw [hwy]; exact cell_set hbg0 y2
              have hBy : Below W.heap.size W wy := by rw [hwy]; exact hBx.setCell hg _
              clear hwy c2 f2 y0 y1 y2 d0 gM HM hBx
              have hT0 : (fun w' : World => w'.cell? ⟨w.heap.size, 0, none⟩ = some (.slice (some ⟨b, off, none⟩) m cp) ∧ w'.cell? ⟨b, off + j * 3 + 1, none⟩ = some (.string key) ∧ w'.cell? ⟨b, off + j * 3 + 2, none⟩ = some (.int .i32 v)) wy.drew := ⟨z0, z1, z2⟩
              have j0 : (0 : Int) ≤ (j : Int) := by omega
              have j1 : (j : Int) < (m : Int) := by omega
              refine wp_region_held (S := fun w' : World => w'.cell? ⟨w.heap.size, 0, none⟩ = some (.slice (some ⟨b, off, none⟩) m cp) ∧ w'.cell? ⟨b, off + j * 3 + 1, none⟩ = some (.string key) ∧ w'.cell? ⟨b, off + j * 3 + 2, none⟩ = some (.int .i32 v)) mixed ?_
              refine wpAnyH_take (i := 0) (v := (.pointer (some ⟨g, 4, none⟩))) rfl (by kernel_rfl) (by kernel_rfl) (by kernel_rfl) (fun _ _ _ h => h) (Or.inl ⟨by rfl, fun wx hx => by go_simp⟩) hT0 ?_
              try dsimp only
              try simp only [Act.put, List.getElem_toArray, List.getElem_cons_succ, List.getElem_cons_zero, List.setIfInBounds_toArray, List.set_cons_zero, List.set_cons_succ]
              refine wpAnyH_take (i := 2) (v := (.pointer (some ⟨w.heap.size, 0, none⟩))) rfl (by kernel_rfl) (by kernel_rfl) (by kernel_rfl) (fun _ _ _ h => h) (Or.inl ⟨by rfl, fun wx hx => by go_simp⟩) hT0 ?_
              try dsimp only
              try simp only [Act.put, List.getElem_toArray, List.getElem_cons_succ, List.getElem_cons_zero, List.setIfInBounds_toArray, List.set_cons_zero, List.set_cons_succ]
              refine wpAnyH_take (i := 3) (v := (.slice (some ⟨b, off, none⟩) m cp)) rfl (by kernel_rfl) (by kernel_rfl) (by kernel_rfl) (fun _ _ _ h => h) (Or.inl ⟨by rfl, fun wx hx => by have hx1 := hx.1; go_simp⟩) hT0 ?_
              try dsimp only
              try simp only [Act.put, List.getElem_toArray, List.getElem_cons_succ, List.getElem_cons_zero, List.setIfInBounds_toArray, List.set_cons_zero, List.set_cons_succ]
              refine wpAnyH_take (i := 4) (v := (.int .i64 j)) rfl (by kernel_rfl) (by kernel_rfl) (by kernel_rfl) (fun _ _ _ h => h) (Or.inl ⟨by rfl, fun wx hx => by go_simp⟩) hT0 ?_
              try dsimp only
              try simp only [Act.put, List.getElem_toArray, List.getElem_cons_succ, List.getElem_cons_zero, List.setIfInBounds_toArray, List.set_cons_zero, List.set_cons_succ]
              refine wpAnyH_take (i := 5) (v := (.pointer (some ⟨b, off + j * 3, none⟩))) rfl (by kernel_rfl) (by kernel_rfl) (by kernel_rfl) (fun _ _ _ h => h) (Or.inl ⟨by rfl, fun wx hx => by go_simp⟩) hT0 ?_
              try dsimp only
              try simp only [Act.put, List.getElem_toArray, List.getElem_cons_succ, List.getElem_cons_zero, List.setIfInBounds_toArray, List.set_cons_zero, List.set_cons_succ]
              refine wpAnyH_take (i := 6) (v := (.pointer (some ⟨b, off + j * 3 + 1, none⟩))) rfl (by kernel_rfl) (by kernel_rfl) (by kernel_rfl) (fun _ _ _ h => h) (Or.inl ⟨by rfl, fun wx hx => by go_simp⟩) hT0 ?_
              try dsimp only
              try simp only [Act.put, List.getElem_toArray, List.getElem_cons_succ, List.getElem_cons_zero, List.setIfInBounds_toArray, List.set_cons_zero, List.set_cons_succ]
              refine wpAnyH_take (i := 7) (v := (.string key)) rfl (by kernel_rfl) (by kernel_rfl) (by kernel_rfl) (fun _ _ _ h => h) (Or.inl ⟨by rfl, fun wx hx => by have hx1 := hx.2.1; go_simp⟩) hT0 ?_
              try dsimp only
              try simp only [Act.put, List.getElem_toArray, List.getElem_cons_succ, List.getElem_cons_zero, List.setIfInBounds_toArray, List.set_cons_zero, List.set_cons_succ]
              refine wpAnyH_take (i := 8) (v := (.pointer (some ⟨w.heap.size, 0, none⟩))) rfl (by kernel_rfl) (by kernel_rfl) (by kernel_rfl) (fun _ _ _ h => h) (Or.inl ⟨by rfl, fun wx hx => by go_simp⟩) hT0 ?_
              try dsimp only
              try simp only [Act.put, List.getElem_toArray, List.getElem_cons_succ, List.getElem_cons_zero, List.setIfInBounds_toArray, List.set_cons_zero, List.set_cons_succ]
              refine wpAnyH_take (i := 9) (v := (.slice (some ⟨b, off, none⟩) m cp)) rfl (by kernel_rfl) (by kernel_rfl) (by kernel_rfl) (fun _ _ _ h => h) (Or.inl ⟨by rfl, fun wx hx => by have hx1 := hx.1; go_simp⟩) hT0 ?_
              try dsimp only
              try simp only [Act.put, List.getElem_toArray, List.getElem_cons_succ, List.getElem_cons_zero, List.setIfInBounds_toArray, List.set_cons_zero, List.set_cons_succ]
              refine wpAnyH_take (i := 10) (v := (.int .i64 j)) rfl (by kernel_rfl) (by kernel_rfl) (by kernel_rfl) (fun _ _ _ h => h) (Or.inl ⟨by rfl, fun wx hx => by go_simp⟩) hT0 ?_
              try dsimp only
              try simp only [Act.put, List.getElem_toArray, List.getElem_cons_succ, List.getElem_cons_zero, List.setIfInBounds_toArray, List.set_cons_zero, List.set_cons_succ]
              refine wpAnyH_take (i := 11) (v := (.pointer (some ⟨b, off + j * 3, none⟩))) rfl (by kernel_rfl) (by kernel_rfl) (by kernel_rfl) (fun _ _ _ h => h) (Or.inl ⟨by rfl, fun wx hx => by go_simp⟩) hT0 ?_
              try dsimp only
              try simp only [Act.put, List.getElem_toArray, List.getElem_cons_succ, List.getElem_cons_zero, List.setIfInBounds_toArray, List.set_cons_zero, List.set_cons_succ]
              refine wpAnyH_take (i := 12) (v := (.pointer (some ⟨b, off + j * 3 + 2, none⟩))) rfl (by kernel_rfl) (by kernel_rfl) (by kernel_rfl) (fun _ _ _ h => h) (Or.inl ⟨by rfl, fun wx hx => by go_simp⟩) hT0 ?_
              try dsimp only
              try simp only [Act.put, List.getElem_toArray, List.getElem_cons_succ, List.getElem_cons_zero, List.setIfInBounds_toArray, List.set_cons_zero, List.set_cons_succ]
              refine wpAnyH_take (i := 13) (v := (.int .i32 v)) rfl (by kernel_rfl) (by kernel_rfl) (by kernel_rfl) (fun _ _ _ h => h) (Or.inl ⟨by rfl, fun wx hx => by have hx1 := hx.2.2; go_simp⟩) hT0 ?_
              try dsimp only
              try simp only [Act.put, List.getElem_toArray, List.getElem_cons_succ, List.getElem_cons_zero, List.setIfInBounds_toArray, List.set_cons_zero, List.set_cons_succ]
              refine wpAnyH_all (rs := [1]) (by kernel_rfl) (by simp) ?_
              intro j hj
              simp only [List.mem_cons, List.not_mem_nil, or_false] at hj
              subst hj
              refine wpOp_of_wp rfl rfl (wp_load_sk_mid _ rfl g 4 rfl _ (by exact hM1.range4 gy) ?_)
              intro SK hSK
              refine ⟨hT0, ?_⟩
              try dsimp only
              try simp only [Act.put, List.getElem_toArray, List.getElem_cons_succ, List.getElem_cons_zero, List.setIfInBounds_toArray, List.set_cons_zero, List.set_cons_succ]
              refine wpAnyH_all (rs := [14]) (by kernel_rfl) (by simp) ?_
              intro j hj
              simp only [List.mem_cons, List.not_mem_nil, or_false] at hj
              subst hj
              refine wpOp_of_wp rfl rfl ?_
              go_simp
              refine (radd_any _ SK hSK okS key v _ l0 v0 v1).mono ?_
              rintro e wz ⟨R, rfl, hR, hbz⟩
              have hbz' : Below wy.heap.size wy wz := ⟨hbz.os, hbz.tape, hbz.output, hbz.size, hbz.block⟩
              have gz := keep hbz' gy
              have hT1 : (fun w' : World => w'.cell? ⟨w.heap.size, 0, none⟩ = some (.slice (some ⟨b, off, none⟩) m cp) ∧ w'.cell? ⟨b, off + j * 3 + 1, none⟩ = some (.string key) ∧ w'.cell? ⟨b, off + j * 3 + 2, none⟩ = some (.int .i32 v)) wz := ⟨cell_keep hbz' z0, cell_keep hbz' z1, cell_keep hbz' z2⟩
              refine ⟨hT1, ?_⟩
              try dsimp only
              try simp only [Act.put, List.getElem_toArray, List.getElem_cons_succ, List.getElem_cons_zero, List.setIfInBounds_toArray, List.set_cons_zero, List.set_cons_succ]
              refine wpAnyH_take (i := 15) (v := (.pointer (some ⟨g, 4, none⟩))) rfl (by kernel_rfl) (by kernel_rfl) (by kernel_rfl) (fun _ _ _ h => h) (Or.inl ⟨by rfl, fun wx hx => by go_simp⟩) hT1 ?_
              try dsimp only
              try simp only [Act.put, List.getElem_toArray, List.getElem_cons_succ, List.getElem_cons_zero, List.setIfInBounds_toArray, List.set_cons_zero, List.set_cons_succ]
              refine wpAnyH_all (rs := [16]) (by kernel_rfl) (by simp) ?_
              intro j hj
              simp only [List.mem_cons, List.not_mem_nil, or_false] at hj
              subst hj
              refine wpOp_of_wp rfl rfl (wp_store_sk4 _ _ rfl R _ rfl rfl hR gz hM1 ?_)
              intro M2 hM2
              have hbg : b ≠ g := by omega
              refine ⟨⟨cell_setRow (by show w.heap.size ≠ g; omega) hT1.1, cell_setRow hbg hT1.2.1, cell_setRow hbg hT1.2.2⟩, ?_⟩
              try dsimp only
              try simp only [Act.put, List.getElem_toArray, List.getElem_cons_succ, List.getElem_cons_zero, List.setIfInBounds_toArray, List.set_cons_zero, List.set_cons_succ]
              refine wpAnyH_done (by kernel_rfl) ?_ _
              have hI : IsIt M2 ⟨n, k, ((evK (l.take (j + 1)) k).length : Int), cl k, skOf (evK (l.take (j + 1)) k)⟩ := by rw [e3.out, e4.out]; exact hM2
              have hBz : Below W.heap.size W (wz.setRow g M2) := below_setRow _ (hBy.trans (hbz'.mono hBy.size)) hg
              have gM2 := setRow_blk (A := M2) gz
              clear hM2 hbz' hbz gz gy hM1 hT0 hT1
              go_wp2
              go_roundw
              case rel => exact ⟨j + 1, M2, by omega, by go_num, gM2, hI, hBz⟩
              case measure => simp [intOf]; omega
            · have e2 := evK_take_no l k j _ he hw
              have HM2 : Hid (IsIt M ⟨n, k, ((evK (l.take (j + 1)) k).length : Int), cl k, skOf (evK (l.take (j + 1)) k)⟩) := by unfold Hid; rw [e2]; exact hM
              clear e2 hM oke y1 y2
              go_wp2
              go_roundw
              case rel => exact ⟨j + 1, M, by omega, by go_num, gM, HM2.out, hBx⟩
              case measure => simp [intOf]; omega
          · obtain rfl : j = m := by omega
            have et : l.take j = l := List.take_of_length_le (by omega)
            rw [et] at hM
            have hlen := evK_len l k
            have hkl := knownTo_len n l cl k
            obtain ⟨cnt, hcnt⟩ : ∃ cnt : Nat, (evK l k).length = cnt := ⟨_, rfl⟩
            rw [hcnt] at hlen
            have HM : Hid (IsIt M (itOf n l cl k)) := hM
            rw [hcnt] at hM
            have c2 : wr.cell? ⟨g, 2, none⟩ = some (.int .i64 cnt) := by rw [cell_of_row _ _ _ _ _ _ gM]; exact hM.get2
            have c3 : wr.cell? ⟨g, 3, none⟩ = some (.bool (cl k)) := by rw [cell_of_row _ _ _ _ _ _ gM]; exact hM.get3
            have hB1 := hB.trans (hBx.mono hB.size)
            have HO2 : Hid (Own clIt wr (w.heap.size + 1) 114 u7 (knownTo n l cl k)) := hown.below hBx
            have gA2 : Hid (wr.heap[w.heap.size]? = some (.cells A 96)) := keep hBx gA
            have hws : w.heap.size + 1 ≤ wr.heap.size := lt_of_blk gA2.out
            have HB2 : Hid (Below w.heap.size w wr) := hB1
            clear et hM hBx hB1 hown hB gA
            by_cases hp : 0 < cnt
            · have HH : Hid (has l cl k = true) := by unfold Hid has; rw [hcnt]; simp [hp]
              clear hcnt
              go_wp2_with (first | (refine load_it rfl _ rfl _ rfl M _ HM.out (by exact gM) ?_) | (refine build1_it rfl _ rfl M _ HM.out rfl ?_; intro R1) | (at_builtin; refine append_it rfl _ _ rfl (w.heap.size + 1) _ _ rfl (by exact HO2.out.below (below_alloc _ _)) _ 1 _ _ rfl rfl R1 (by omega) (by omega) (by simp; omega) ?_; intro v1 w5 o1 h1 g1 t1 f1; have HB5 := known_b HB2.out HO2.out gA2.out g1; have O1 : Hid _ := o1; clear o1 h1 g1 t1 f1 R1))
              go_roundw
              case rel => exact ⟨k + 1, by omega, by go_num, by rw [knownTo_yes _ _ _ _ HH.out]; exact O1.out, HB5.1, HB5.2⟩
              case measure => simp [intOf]; omega
            · obtain rfl : cnt = 0 := by omega
              obtain ⟨b, hb⟩ : ∃ b, cl k = b := ⟨_, rfl⟩
              rw [hb] at c3
              cases b with
              | true =>
                have HH : Hid (has l cl k = true) := by unfold Hid has; rw [hb]; simp
                clear hcnt hb
                go_wp2_with (first | (refine load_it rfl _ rfl _ rfl M _ HM.out (by exact gM) ?_) | (refine build1_it rfl _ rfl M _ HM.out rfl ?_; intro R1) | (at_builtin; refine append_it rfl _ _ rfl (w.heap.size + 1) _ _ rfl (by exact HO2.out.below (below_alloc _ _)) _ 1 _ _ rfl rfl R1 (by omega) (by omega) (by simp; omega) ?_; intro v1 w5 o1 h1 g1 t1 f1; have HB5 := known_b HB2.out HO2.out gA2.out g1; have O1 : Hid _ := o1; clear o1 h1 g1 t1 f1 R1))
                go_roundw
                case rel => exact ⟨k + 1, by omega, by go_num, by rw [knownTo_yes _ _ _ _ HH.out]; exact O1.out, HB5.1, HB5.2⟩
                case measure => simp [intOf]; omega
              | false =>
                have HH : Hid (has l cl k = false) := by unfold Hid has; rw [hcnt, hb]; simp
                clear hcnt hb
                go_wp2
                go_roundw
                case rel => exact ⟨k + 1, by omega, by go_num, by rw [knownTo_no _ _ _ _ HH.out]; exact HO2.out, HB2.out, gA2.out⟩
                case measure => simp [intOf]; omega
    · obtain rfl : k = 20 := by omega
      go_wp2
      go_ret
      exact ⟨_, rfl, hown.mono (by omega), hB⟩
end Go.Proofs.YtpglbakcjihohaaGreat

/-! The document's store in memory: its blocks, whose they are, and what stands in them. -/
namespace Go.Proofs.YtpglbakcjihohaaGreat
open Go.RowKit
set_option maxRecDepth 100000

/-! ### One cell of one thing of an owned row -/
section
variable {α : Type} {C : Cl α}
theorem Own.cell_at {w : World} {base : Nat} {e : TypeId} {g n cap : Nat} {l : List α} (h : Own C w base e (.slice (some ⟨g, 0, none⟩) n cap) l) (k : Nat) (x : α) (hx : l[k]? = some x) (j : Nat) (u : Value) (hu : (C.cells x)[j]? = some u) :
    w.cell? ⟨g, k * C.size + j, none⟩ = some u := by
  obtain ⟨p, c, hv, _, _, hr⟩ := h.form
  cases hv
  rcases hr with rfl | ⟨b, off, e1, _, hc⟩
  · simp at hx
  · cases e1
    have := hc k x hx j u hu
    rwa [Nat.zero_add] at this
theorem Own.blk {w : World} {base : Nat} {e : TypeId} {g n cap : Nat} {l : List α} (h : Own C w base e (.slice (some ⟨g, 0, none⟩) n cap) l) : ∃ cur, w.heap[g]? = some (.cells cur e) := by
  rcases h.2 with ⟨e1, _⟩ | ⟨g2, cap2, cur, e1, _, hg, _⟩
  · cases e1
  · cases e1; exact ⟨cur, hg⟩
theorem Own.cell_set {w : World} {base : Nat} {e : TypeId} {g n cap : Nat} {l : List α} (h : Own C w base e (.slice (some ⟨g, 0, none⟩) n cap) l) (k : Nat) (x x' : α) (hx : l[k]? = some x) (j : Nat) (u : Value) (hj : j < C.size) (hu : C.cells x' = (C.cells x).set j u) :
    Own C (w.setCell ⟨g, k * C.size + j, none⟩ u) base e (.slice (some ⟨g, 0, none⟩) n cap) (l.set k x') := by
  obtain ⟨hk, hxk⟩ := List.getElem?_eq_some_iff.1 hx
  obtain ⟨cur, h1, h2, h3⟩ := h.set k x' hk
  refine h3.chg fun q hq => ?_
  obtain rfl : g = q := by simpa [Value.ownBlock] using hq
  rw [heap_setCell_same _ _ _ _ _ _ h1, setRow_heap w g cur _ e _ h1]
  congr 2
  apply Array.ext_getElem?
  intro i
  have hl : (C.cells x').length = C.size := Cl.len x'
  by_cases hin : k * C.size ≤ i ∧ i < k * C.size + C.size
  · obtain ⟨d, rfl⟩ : ∃ d, i = k * C.size + d := ⟨i - k * C.size, by omega⟩
    rw [lay_get_in (by rw [hl]; exact h2) (by rw [hl]; omega), hu, Array.getElem?_setIfInBounds, List.getElem?_set]
    by_cases e1 : j = d
    · subst e1
      rw [if_pos rfl, if_pos rfl, if_pos (by omega), if_pos (by rw [Cl.len]; omega)]
    · rw [if_neg (by omega), if_neg e1]
      obtain ⟨v, hv⟩ : ∃ v, (C.cells x)[d]? = some v := ⟨_, List.getElem?_eq_getElem (by rw [Cl.len]; omega)⟩
      rw [hv]
      have := h.cell_at k x hx d v hv
      rw [cell_of_row _ _ _ _ _ _ h1] at this
      exact this
  · rw [lay_get_out (by rw [hl]; exact h2) (by rw [hl]; omega), Array.getElem?_setIfInBounds, if_neg (by omega)]
/-- Many cells of one thing. -/
theorem Own.part_set {w : World} {base : Nat} {e : TypeId} {g n cap : Nat} {l : List α} (h : Own C w base e (.slice (some ⟨g, 0, none⟩) n cap) l) (k : Nat) (x x' : α) (hx : l[k]? = some x) (j : Nat) (us : List Value) (hj : j + us.length ≤ C.size)
    (hin : ∀ d, d < us.length → (C.cells x')[j + d]? = us[d]?) (hout : ∀ d, d < j ∨ j + us.length ≤ d → (C.cells x')[d]? = (C.cells x)[d]?) :
    ∃ cur, w.heap[g]? = some (.cells cur e) ∧ k * C.size + j + us.length ≤ cur.size ∧ Own C (w.setRow g (lay cur (k * C.size + j) us)) base e (.slice (some ⟨g, 0, none⟩) n cap) (l.set k x') := by
  obtain ⟨hk, hxk⟩ := List.getElem?_eq_some_iff.1 hx
  obtain ⟨cur, h1, h2, h3⟩ := h.set k x' hk
  refine ⟨cur, h1, by omega, h3.chg fun q hq => ?_⟩
  obtain rfl : g = q := by simpa [Value.ownBlock] using hq
  rw [setRow_heap w g cur _ e _ h1, setRow_heap w g cur _ e _ h1]
  congr 2
  apply Array.ext_getElem?
  intro i
  have hl : (C.cells x').length = C.size := Cl.len x'
  by_cases hi : k * C.size + j ≤ i ∧ i < k * C.size + j + us.length
  · obtain ⟨d, rfl⟩ : ∃ d, i = k * C.size + j + d := ⟨i - (k * C.size + j), by omega⟩
    rw [lay_get_in (by omega) (by omega)]
    rw [show k * C.size + j + d = k * C.size + (j + d) by omega, lay_get_in (by rw [hl]; exact h2) (by rw [hl]; omega), hin d (by omega)]
  · rw [lay_get_out (by omega) (by omega)]
    by_cases hi2 : k * C.size ≤ i ∧ i < k * C.size + C.size
    · obtain ⟨d, rfl⟩ : ∃ d, i = k * C.size + d := ⟨i - k * C.size, by omega⟩
      rw [lay_get_in (by rw [hl]; exact h2) (by rw [hl]; omega), hout d (by omega)]
      obtain ⟨v, hv⟩ : ∃ v, (C.cells x)[d]? = some v := ⟨_, List.getElem?_eq_getElem (by rw [Cl.len]; omega)⟩
      rw [hv]
      have := h.cell_at k x hx d v hv
      rw [cell_of_row _ _ _ _ _ _ h1] at this
      exact this
    · rw [lay_get_out (by rw [hl]; exact h2) (by rw [hl]; omega)]
end

/-! ### A node -/
structure NdC where
  live : LfC
  kept : LfC
  vi : Sl
  vs : Sl
def NdC.cells (c : NdC) : List Value := c.live.cells ++ c.kept.cells ++ [c.vi.val, c.vs.val]
theorem NdC.len (c : NdC) : c.cells.length = 46 := by simp [NdC.cells, LfC.len]
theorem NdC.one (c : NdC) : ∀ v ∈ c.cells, v.oneCell' = true := fun v hv => by
  simp only [NdC.cells, List.mem_append, List.mem_cons, List.not_mem_nil, or_false] at hv
  rcases hv with (hv | hv) | rfl | rfl
  · exact c.live.one v hv
  · exact c.kept.one v hv
  · rfl
  · rfl
abbrev clNd : Cl NdC := ⟨NdC.cells, 46, by decide, NdC.len, NdC.one⟩
theorem NdC.clsize : clNd.size = 46 := rfl
theorem NdC.get_live (c : NdC) (j : Nat) (hj : j < 22) : c.cells[j]? = c.live.cells[j]? := by
  rw [NdC.cells, List.append_assoc, List.getElem?_append_left (by rw [LfC.len]; exact hj)]
theorem NdC.get_kept (c : NdC) (j : Nat) (hj : j < 22) : c.cells[22 + j]? = c.kept.cells[j]? := by
  rw [NdC.cells, List.append_assoc, List.getElem?_append_right (by rw [LfC.len]; omega), LfC.len, List.getElem?_append_left (by rw [LfC.len]; omega)]; congr 1; omega
theorem NdC.get_vi (c : NdC) : c.cells[44]? = some (.slice c.vi.p c.vi.n c.vi.c) := by
  rw [NdC.cells, List.getElem?_append_right (by simp [LfC.len])]; simp [LfC.len]; rfl
theorem NdC.get_vs (c : NdC) : c.cells[45]? = some (.slice c.vs.p c.vs.n c.vs.c) := by
  rw [NdC.cells, List.getElem?_append_right (by simp [LfC.len])]; simp [LfC.len]; rfl
theorem slNd : SlT Tryz.prog clNd 73 98 160 := ⟨Tryz.underlying73, by kernel_rfl⟩

structure Nd where
  lev : List Ev3
  lcl : Nat → Bool
  lmk : Int
  kev : List Ev3
  kcl : Nat → Bool
  kmk : Int
  items : List It
  saved : List It
/-- What a node must be for the walk: numbers that fit, lists that are not too long. -/
structure Nd.Ok (d : Nd) : Prop where
  lev : EvOk d.lev
  kev : EvOk d.kev
  lmk : 0 ≤ d.lmk ∧ d.lmk ≤ 20000
  kmk : 0 ≤ d.kmk ∧ d.kmk ≤ 20000
  items : AllOkI d.items
  saved : AllOkI d.saved
  li : d.items.length ≤ 160
  ls : d.saved.length ≤ 160
structure NdRep (w : World) (own : Ghost) (B0 n : Nat) (c : NdC) (d : Nd) : Prop where
  lcl : c.live.cl = d.lcl
  lmk : c.live.mark = d.lmk
  kcl : c.kept.cl = d.kcl
  kmk : c.kept.mark = d.kmk
  lev : Own clEv w B0 100 c.live.ve.val d.lev
  kev : Own clEv w B0 100 c.kept.ve.val d.kev
  items : Own clIt w B0 114 c.vi.val d.items
  saved : Own clIt w B0 114 c.vs.val d.saved
  tl : TgV own c.live.ve.val (.wd (4 * n + 3))
  tk : TgV own c.kept.ve.val (.wd (4 * n + 4))
  ti : TgV own c.vi.val (.wd (4 * n + 5))
  ts : TgV own c.vs.val (.wd (4 * n + 6))
structure WRep (w : World) (own : Ghost) (B0 bw : Nat) (t : List Int) (wid : Int) (D : List Nd) (vt vn : Sl) (C : List NdC) : Prop where
  T : Tree t
  wid0 : 1 ≤ wid
  wid1 : wid ≤ 1000
  main : w.heap[bw]? = some (.cells #[vt.val, .int .i64 wid, vn.val] 75)
  tm : own bw = .wd 0
  b0 : B0 ≤ bw
  tree : Own clInt w B0 3 vt.val t
  tt : TgV own vt.val (.wd 1)
  nodes : Own clNd w B0 98 vn.val C
  tn : TgV own vn.val (.wd 2)
  lc : C.length = t.length
  ld : D.length = t.length
  rep : ∀ n c d, C[n]? = some c → D[n]? = some d → NdRep w own B0 n c d
  ok : ∀ (n : Nat) (d : Nd), D[n]? = some d → d.Ok
theorem TgV.own {own own' : Ghost} {w : World} {v : Value} {t : Tag} {α : Type} {C : Cl α} {B : Nat} {e : TypeId} {l : List α} (h : TgV own v t) (s : Same w own own') (ho : Own C w B e v l) (hf : t ≠ .free) : TgV own' v t := fun k hk => by
  rw [s k (ho.lt k hk).2 (by rw [h k hk]; exact hf)]; exact h k hk
theorem Own.fr {own : Ghost} {S : Tag → Prop} {w w' : World} {v : Value} {t : Tag} {α : Type} {C : Cl α} {B : Nat} {e : TypeId} {l : List α} (ho : Own C w B e v l) (f : Fr own S w w') (h : TgV own v t) (hf : t ≠ .free) (hS : ¬ S t) : Own C w' B e v l :=
  ho.chg fun k hk => f.block k (ho.lt k hk).2 (by rw [h k hk]; exact hf) (by rw [h k hk]; exact hS)
theorem NdRep.chg {w w' : World} {own own' : Ghost} {B0 n : Nat} {c : NdC} {d : Nd} (h : NdRep w own B0 n c d) {S : Tag → Prop} (f : Fr own S w w') (s : Same w own own') (hS : ∀ i, 4 * n + 3 ≤ i → i ≤ 4 * n + 6 → ¬ S (.wd i)) : NdRep w' own' B0 n c d where
  lcl := h.lcl
  lmk := h.lmk
  kcl := h.kcl
  kmk := h.kmk
  lev := h.lev.fr f h.tl (by simp) (hS _ (by omega) (by omega))
  kev := h.kev.fr f h.tk (by simp) (hS _ (by omega) (by omega))
  items := h.items.fr f h.ti (by simp) (hS _ (by omega) (by omega))
  saved := h.saved.fr f h.ts (by simp) (hS _ (by omega) (by omega))
  tl := h.tl.own s h.lev (by simp)
  tk := h.tk.own s h.kev (by simp)
  ti := h.ti.own s h.items (by simp)
  ts := h.ts.own s h.saved (by simp)
theorem WRep.chg {w w' : World} {own own' : Ghost} {B0 bw : Nat} {t : List Int} {wid : Int} {D : List Nd} {vt vn : Sl} {C : List NdC} (h : WRep w own B0 bw t wid D vt vn C) {S : Tag → Prop} (f : Fr own S w w') (s : Same w own own') (hS : ∀ i, ¬ S (.wd i)) : WRep w' own' B0 bw t wid D vt vn C where
  T := h.T
  wid0 := h.wid0
  wid1 := h.wid1
  main := by rw [f.block bw (lt_of_blk h.main) (by rw [h.tm]; simp) (by rw [h.tm]; exact hS 0)]; exact h.main
  tm := by rw [s bw (lt_of_blk h.main) (by rw [h.tm]; simp)]; exact h.tm
  b0 := h.b0
  tree := h.tree.fr f h.tt (by simp) (hS 1)
  tt := h.tt.own s h.tree (by simp)
  nodes := h.nodes.fr f h.tn (by simp) (hS 2)
  tn := h.tn.own s h.nodes (by simp)
  lc := h.lc
  ld := h.ld
  rep := fun n c d hc hd => (h.rep n c d hc hd).chg f s fun i _ _ => hS i
  ok := h.ok
theorem WRep.below {w w' : World} {own : Ghost} {B0 bw : Nat} {t : List Int} {wid : Int} {D : List Nd} {vt vn : Sl} {C : List NdC} (h : WRep w own B0 bw t wid D vt vn C) (hb : Below w.heap.size w w') : WRep w' own B0 bw t wid D vt vn C :=
  h.chg (S := fun _ => False) (Fr.of_below hb) (Same.refl _ _) fun _ h => h
theorem WRep.treeAt {w : World} {own : Ghost} {B0 bw : Nat} {t : List Int} {wid : Int} {D : List Nd} {vt vn : Sl} {C : List NdC} (h : WRep w own B0 bw t wid D vt vn C) : TreeAt w bw vt.p vt.c t := by
  obtain ⟨p, c, hv, _, _, hr⟩ := h.tree.form
  have e : vt.p = p ∧ vt.n = t.length ∧ vt.c = c := by simpa [Sl.val] using hv
  refine ⟨?_, by rw [e.1]; exact hr⟩
  rw [cell_of_row _ _ _ _ _ _ h.main, ← e.2.1]; rfl
/-- The row of nodes: where it lies. -/
theorem WRep.row {w : World} {own : Ghost} {B0 bw : Nat} {t : List Int} {wid : Int} {D : List Nd} {vt vn : Sl} {C : List NdC} (h : WRep w own B0 bw t wid D vt vn C) : ∃ gn cn, vn = ⟨some ⟨gn, 0, none⟩, t.length, cn⟩ := by
  obtain ⟨p, n, c⟩ := vn
  have hp := h.T.pos
  rcases h.nodes.2 with ⟨e, h0⟩ | ⟨g, cap, cur, e, _⟩
  · have := h.lc; omega
  · unfold Sl.val at e; cases e; exact ⟨g, c, by rw [h.lc]⟩
theorem WRep.width {w : World} {own : Ghost} {B0 bw : Nat} {t : List Int} {wid : Int} {D : List Nd} {vt vn : Sl} {C : List NdC} (h : WRep w own B0 bw t wid D vt vn C) : w.cell? ⟨bw, 1, none⟩ = some (.int .i64 wid) := by
  rw [cell_of_row _ _ _ _ _ _ h.main]; rfl
theorem WRep.rowcell {w : World} {own : Ghost} {B0 bw : Nat} {t : List Int} {wid : Int} {D : List Nd} {vt vn : Sl} {C : List NdC} (h : WRep w own B0 bw t wid D vt vn C) : w.cell? ⟨bw, 2, none⟩ = some (.slice vn.p vn.n vn.c) := by
  rw [cell_of_row _ _ _ _ _ _ h.main]; rfl
/-- A node's number leads to a node. -/
theorem WRep.at {w : World} {own : Ghost} {B0 bw : Nat} {t : List Int} {wid : Int} {D : List Nd} {vt vn : Sl} {C : List NdC} (h : WRep w own B0 bw t wid D vt vn C) (n : Int) (hn : isNd t n = true) : ∃ (k : Nat) (c : NdC) (d : Nd), n = k ∧ k < t.length ∧ C[k]? = some c ∧ D[k]? = some d ∧ NdRep w own B0 k c d ∧ d.Ok := by
  simp only [isNd, decide_eq_true_eq] at hn
  have h1 := h.lc
  have h2 := h.ld
  obtain ⟨k, rfl⟩ : ∃ k : Nat, n = k := ⟨n.toNat, by omega⟩
  have hk : k < t.length := by omega
  refine ⟨k, C[k]'(by omega), D[k]'(by omega), rfl, hk, List.getElem?_eq_getElem _, List.getElem?_eq_getElem _, h.rep k _ _ (List.getElem?_eq_getElem _) (List.getElem?_eq_getElem _), h.ok k _ (List.getElem?_eq_getElem _)⟩
end Go.Proofs.YtpglbakcjihohaaGreat
