/-
  Own texts, laid together: The program's ledger: an event that joins, a window that is closed, the watermark, the items of some windows, a copy. 'fair': may a packet come to a node, for every packet. The program's ledger takes an item that came: which is newer, and where it is laid. The program's tree: which node there is, which is a leaf, which is under which; how many leaves are under a node. What the walk of the law asks of the program: its store in memory, and each call of it, as hypotheses. The program's store in memory: its blocks, whose they are, what stands in them; one ledger of it changed; its small questions. Packets and lists of packets in memory; whole things in regions whose order is open. The program's Items, Watermark, Sync, Crash, Send, for every node. The program's Send, Ingest, Advance, for every node.
-/
import Derived.Test.YtpglbakcjihohabRows
import Derived.Test.YtpglbakcjihohabPart2
set_option linter.unusedSimpArgs false
set_option linter.unusedVariables false
set_option linter.deprecated false
/-! The program's ledger: an event that joins, a window that is closed, the watermark, the items of some windows, a copy. -/
namespace Go.Proofs.Ytpglbakcjihohab
open Go.RowKit
set_option maxRecDepth 100000

theorem PF.pre {w w1 w2 : World} {bs o : Nat} {cur : Array Value} {ty : TypeId} {v v' : Value} (hb : Below w.heap.size w w1) (h : PF w1 w2 bs o cur ty v v') : PF w w2 bs o cur ty v v' where
  os := h.os.trans hb.os
  tape := h.tape.trans hb.tape
  output := h.output.trans hb.output
  size := Nat.le_trans hb.size h.size
  blk := fun k hk h1 h2 => by rw [h.blk k (Nat.lt_of_lt_of_le hk hb.size) h1 h2]; exact hb.block k hk
  main := h.main
  at' := by
    rcases h.at' with a | ⟨g, a, hg⟩
    · exact .inl a
    · exact .inr ⟨g, a, Nat.le_trans hb.size hg⟩
set_option maxHeartbeats 400000 in
theorem lWatermark_any (w : World) (bs o : Nat) (mk : Int) (c1 : w.cell? ⟨bs, o + 1, none⟩ = some (.int .i64 mk)) :
    Calls Try.prog 57 #[.pointer (some ⟨bs, o, none⟩)] w fun e w' => e = .returned (.int .i64 mk) ∧ w' = w := by
  go_enter Try.func57, Try.ntmps57
  go_wp2
  go_ret
  exact ⟨rfl, rfl⟩
set_option maxHeartbeats 400000 in
theorem lSetWatermark_any (w : World) (bs o : Nat) (cur : Array Value) (ty : TypeId) (mk tm : Int) (hm : w.heap[bs]? = some (.cells cur ty)) (hc1 : cur[o + 1]? = some (.int .i64 mk)) :
    Calls Try.prog 68 #[.pointer (some ⟨bs, o, none⟩), .int .i64 tm] w fun e w' => e = .returned (.tuple #[]) ∧ w' = w.setCell ⟨bs, o + 1, none⟩ (.int .i64 tm) := by
  have c1 : w.cell? ⟨bs, o + 1, none⟩ = some (.int .i64 mk) := by rw [cell_of_row _ _ _ _ _ _ hm]; exact hc1
  have f1 : w.frozen? ⟨bs, o + 1, none⟩ = false := frozen_of_row _ _ _ _ _ hm
  clear hm hc1
  go_enter Try.func68, Try.ntmps68
  go_wp2
  exact bodyPost_end (results_none rfl _ _ _) rfl ⟨rfl, rfl⟩
set_option maxHeartbeats 1000000 in
theorem lIsFinal_any (w : World) (bs o : Nat) (p : Option Addr) (m c : Nat) (mk : Int) (l : List It) (h : LgR w bs o p m c mk l) (lf wn : Int) :
    Calls Try.prog 65 #[.pointer (some ⟨bs, o, none⟩), .int .i64 lf, .int .i64 wn] w fun e w' => e = .returned (.bool (itm lf wn l).fin) ∧ Below w.heap.size w w' := by
  have H : Hid (LgR w bs o p m c mk l) := h
  clear h
  go_enter Try.func65, Try.ntmps65
  go_wp2_with (first | (go_at_call 77; refine (item_any _ _ _ _ _ _ _ l H.out _ _).mono ?_; rintro e w1 ⟨X, rfl, hX, hb1⟩; have x3 := hX.get3) | (refine alloc_it rfl rfl ?_; intro Z hZ) | (refine store_it_new rfl _ _ rfl X _ _ rfl rfl (by simp) hX hZ ?_))
  go_ret
  exact ⟨rfl, bnext hb1 (below_alloc _ _)⟩
set_option maxHeartbeats 2000000 in
theorem lItems_any (w : World) (bs o : Nat) (p : Option Addr) (m c : Nat) (mk : Int) (l : List It) (h : LgR w bs o p m c mk l) (low high : Int) :
    Calls Try.prog 29 #[.pointer (some ⟨bs, o, none⟩), .int .i64 low, .int .i64 high] w fun e w' => ∃ v, e = .returned v ∧ Own clIt w' w.heap.size 80 v (l.filter (inRg low high)) ∧ Below w.heap.size w w' := by
  have H : Hid (LgR w bs o p m c mk l) := h
  have hm := h.small
  have hlen := h.len
  clear h
  go_enter Try.func29, Try.ntmps29
  go_wp2
  go_loopw [7, 8] (fun v i wr => ∃ k : Nat, k ≤ m ∧ i = .int .i64 k ∧ Own clIt wr w.heap.size 80 v ((l.take k).filter (inRg low high)) ∧ Below w.heap.size w wr) (fun _ i _ => m - (intOf i).toNat)
  case atStart => exact ⟨0, by omega, rfl, Own.nil _ _ _, Below.refl _ _⟩
  case round =>
    obtain ⟨k, hk, rfl, ho, hb⟩ := hrel
    have HB : Hid (Below w.heap.size w wr) := hb
    have HO : Hid (Own clIt wr w.heap.size 80 u7 ((l.take k).filter (inRg low high))) := ho
    have d0 := (H.out.below hb).c0
    clear hb ho
    by_cases hlk : k < m
    · obtain ⟨y, hy⟩ : ∃ y, l[k]? = some y := ⟨_, List.getElem?_eq_getElem (by omega)⟩
      obtain ⟨b0, off, rfl, hlt, hcx⟩ := (H.out.below HB.out).rows.pos k (by omega)
      have rg : Hid (wr.rangeAt b0 (off + k * 32) y.cells) := hcx k y hy
      have y1 : wr.cell? ⟨b0, off + k * 32 + 1, none⟩ = some (.int .i64 y.win) := rg.out 1 _ rfl
      have hft := filt_take l low high k y hy
      have hfl : ((l.take k).filter (inRg low high)).length ≤ k := Nat.le_trans (List.length_filter_le _ _) (by simp; omega)
      clear hcx hy
      by_cases in0 : low ≤ y.win
      · by_cases in1 : y.win ≤ high
        · have hiB : inRg low high y = true := by simp [inRg, in0, in1]
          rw [if_pos hiB] at hft
          have HFT : Hid ((l.take (k + 1)).filter (inRg low high) = (l.take k).filter (inRg low high) ++ [y]) := hft
          have hsz := HB.out.size
          clear hft hiB
          go_wp2_with (first | (refine load_it_mid rfl _ rfl _ _ rfl y (by exact rg.out) ?_; intro Y hY) | (refine build1_it rfl _ rfl Y _ hY rfl ?_; intro R1) | (at_builtin; refine append_it rfl _ _ rfl w.heap.size _ _ rfl (by exact HO.out.below (below_alloc _ _)) _ 1 _ _ rfl rfl R1 (by omega) (by omega) (by simp; omega) ?_; intro v1 w2 o1 _ g1 t1 _))
          go_roundw
          case rel => exact ⟨k + 1, by omega, by go_num, by rw [HFT.out]; exact o1, (bnext HB.out (below_alloc _ _)).trans (grown_below g1 _ (by simp; omega) (fun j hj => (HO.out.lt j hj).1))⟩
          case measure => simp [intOf]; omega
        · have hiB : inRg low high y = false := by simp [inRg]; omega
          rw [if_neg (by rw [hiB]; simp), List.append_nil] at hft
          rw [← hft] at HO
          clear hft
          go_wp2
          go_roundw
          case rel => exact ⟨k + 1, by omega, by go_num, HO.out, HB.out⟩
          case measure => simp [intOf]; omega
      · have hiB : inRg low high y = false := by simp [inRg]; omega
        rw [if_neg (by rw [hiB]; simp), List.append_nil] at hft
        rw [← hft] at HO
        clear hft
        go_wp2
        go_roundw
        case rel => exact ⟨k + 1, by omega, by go_num, HO.out, HB.out⟩
        case measure => simp [intOf]; omega
    · obtain rfl : k = m := by omega
      rw [List.take_of_length_le (by omega)] at HO
      go_wp2
      go_ret
      exact ⟨u7, rfl, HO.out, HB.out⟩
set_option maxHeartbeats 2000000 in
theorem lAdd_any (w : World) (B0 bs o : Nat) (cur : Array Value) (ty : TypeId) (p : Option Addr) (m c : Nat) (mk : Int) (l : List It) (lf wn : Int) (key : ByteArray) (v : Int) (hks : key.size ≤ maxLen) (hv0 : -2147483648 ≤ v) (hv1 : v ≤ 2147483647)
    (hm : w.heap[bs]? = some (.cells cur ty)) (hc0 : cur[o]? = some (.slice p m c)) (hc1 : cur[o + 1]? = some (.int .i64 mk)) (hown : Own clIt w B0 80 (.slice p m c) l) (hne : (Value.slice p m c).ownBlock ≠ some bs) (hB0 : B0 ≤ w.heap.size) (hl : l.length ≤ 1000)
    (hok : (itm lf wn l).sk.Ok) (hver : 0 ≤ (itm lf wn l).ver ∧ (itm lf wn l).ver ≤ 1000000000) :
    Calls Try.prog 66 #[.pointer (some ⟨bs, o, none⟩), .int .i64 lf, .int .i64 wn, .string key, .int .i32 v] w fun e w' => e = .returned (.tuple #[]) ∧ ∃ s : Sl, Own clIt w' B0 80 s.val (pin { itm lf wn l with ver := (itm lf wn l).ver + 1, sk := mrg (itm lf wn l).sk (one key.data.toList v) } l) ∧ PF w w' bs o cur ty (.slice p m c) s.val := by
  have hlg : LgR w bs o p m c mk l := ⟨by rw [cell_of_row _ _ _ _ _ _ hm]; exact hc0, by rw [cell_of_row _ _ _ _ _ _ hm]; exact hc1, (Own.sl (s := ⟨p, m, c⟩) hown).2, (Own.sl (s := ⟨p, m, c⟩) hown).1, by have h : l.length = m := (Own.sl (s := ⟨p, m, c⟩) hown).1; omega⟩
  have H : Hid (LgR w bs o p m c mk l) := hlg
  have HM : Hid (w.heap[bs]? = some (.cells cur ty) ∧ Own clIt w B0 80 (.slice p m c) l) := ⟨hm, hown⟩
  have HC : Hid (cur[o]? = some (.slice p m c) ∧ cur[o + 1]? = some (.int .i64 mk)) := ⟨hc0, hc1⟩
  have HOK : Hid (itm lf wn l).sk.Ok := hok
  have HNE : Hid ((Value.slice p m c).ownBlock ≠ some bs) := hne
  have hbs := lt_of_blk hm
  obtain ⟨it0, hit⟩ : ∃ it0, it0 = itm lf wn l := ⟨_, rfl⟩
  rw [← hit] at hver HOK ⊢
  have HIT : Hid (it0 = itm lf wn l) := hit
  have e1 : IntKind.i64.wrap (it0.ver + 1) = it0.ver + 1 := IntWalk.i64_in _ ⟨by omega, by omega⟩
  clear hlg hm hc0 hc1 hown hok hne hit
  go_enter Try.func66, Try.ntmps66
  go_upto_region 1 with (first | (go_at_call 77; refine (item_any _ _ _ _ _ _ _ l H.out _ _).mono ?_; rintro e w1 ⟨X, rfl, hX0, hb1⟩; rw [← HIT.out] at hX0; have HX : Hid (IsIt X it0) := hX0; clear hX0) | (refine alloc_it rfl rfl ?_; intro Z hZ) | (refine store_it_new rfl _ _ rfl X _ _ rfl rfl (by simp) HX.out hZ ?_))
  obtain ⟨g, hg⟩ : ∃ g, g = w1.heap.size := ⟨_, rfl⟩
  obtain ⟨w2, hw2⟩ : ∃ w2, w2 = w1.alloc (.cells X 80) := ⟨_, rfl⟩
  have HB2 : Hid (Below w.heap.size w w2) := by unfold Hid; rw [hw2]; exact bnext hb1 (below_alloc _ _)
  have G2 : Hid (w2.heap[g]? = some (.cells X 80)) := by unfold Hid; rw [hw2, hg]; exact heap_alloc_new _ _
  have hgw : w.heap.size ≤ g := by rw [hg]; exact hb1.size
  have y2 : w2.cell? ⟨g, 2, none⟩ = some (.int .i64 it0.ver) := by rw [cell_of_row _ _ _ _ _ _ G2.out]; exact HX.out.get2
  have f2 : w2.frozen? ⟨g, 2, none⟩ = false := frozen_of_row _ _ _ _ _ G2.out
  rw [← hw2, ← hg]
  clear hw2 hg hb1 hZ
  go_upto_region 2 with fail
  have HX1 : Hid (IsIt (X.setIfInBounds 2 (.int .i64 (it0.ver + 1))) { it0 with ver := it0.ver + 1 }) := HX.out.setVer _
  obtain ⟨w3, hw3⟩ : ∃ w3, w3 = w2.setCell ⟨g, 2, none⟩ (.int .i64 (it0.ver + 1)) := ⟨_, rfl⟩
  have G3 : Hid (w3.heap[g]? = some (.cells (X.setIfInBounds 2 (.int .i64 (it0.ver + 1))) 80)) := by unfold Hid; rw [hw3, heap_setCell_same _ _ _ _ _ _ G2.out]
  have HB3 : Hid (Below w.heap.size w w3) := by
    unfold Hid; rw [hw3]
    exact ⟨HB2.out.os, HB2.out.tape, HB2.out.output, by simpa using HB2.out.size, fun k hk => by rw [heap_setCell_other _ _ _ _ (by show k ≠ g; omega)]; exact HB2.out.block k hk⟩
  rw [← hw3]
  clear hw3 y2 f2 G2 HB2 HX
  obtain ⟨X1, hX1e⟩ : ∃ X1, X1 = X.setIfInBounds 2 (.int .i64 (it0.ver + 1)) := ⟨_, rfl⟩
  rw [← hX1e] at G3 HX1
  clear hX1e
  go_wp2_with (first | (refine load_sk_mid rfl _ rfl g 4 rfl it0.sk (by exact HX1.out.range4 G3.out) ?_; intro S hS) | (go_at_call 78; refine (add_any it0.sk S hS HOK.out key v _ hks hv0 hv1).mono ?_; rintro e w4 ⟨R, rfl, hR, hb4⟩; have G4 : Hid (w4.heap[g]? = some (.cells X1 80)) := keep hb4 G3.out; have HB4 : Hid (Below w.heap.size w w4) := bnext HB3.out hb4) | (refine store_sk4 rfl _ _ rfl R _ rfl rfl hR (by exact G4.out) HX1.out ?_; intro X2 hX2; have HB5 : Hid (Below w.heap.size w (w4.setRow g X2)) := below_setRow _ HB4.out hgw; have G5 : Hid ((w4.setRow g X2).heap[g]? = some (.cells X2 80)) := setRow_blk G4.out) | (refine load_it rfl _ rfl _ rfl X2 _ hX2 (by exact G5.out) ?_))
  refine (put_any _ B0 bs o cur ty p m c mk l _ X2 hX2 (by rw [HB5.out.block bs hbs]; exact HM.out.1) HC.out.1 HC.out.2 (HM.out.2.below HB5.out) HNE.out (Nat.le_trans hB0 HB5.out.size) hl).mono ?_
  rintro e w6 ⟨rfl, s, ho, pf⟩
  go_wp2
  exact bodyPost_end (results_none rfl _ _ _) rfl ⟨rfl, s, ho, pf.pre HB5.out⟩
set_option maxHeartbeats 2000000 in
theorem lClose_any (w : World) (B0 bs o : Nat) (cur : Array Value) (ty : TypeId) (p : Option Addr) (m c : Nat) (mk : Int) (l : List It) (lf wn : Int)
    (hm : w.heap[bs]? = some (.cells cur ty)) (hc0 : cur[o]? = some (.slice p m c)) (hc1 : cur[o + 1]? = some (.int .i64 mk)) (hown : Own clIt w B0 80 (.slice p m c) l) (hne : (Value.slice p m c).ownBlock ≠ some bs) (hB0 : B0 ≤ w.heap.size) (hl : l.length ≤ 1000) :
    Calls Try.prog 69 #[.pointer (some ⟨bs, o, none⟩), .int .i64 lf, .int .i64 wn] w fun e w' => e = .returned (.tuple #[]) ∧ ∃ s : Sl, Own clIt w' B0 80 s.val (pin { itm lf wn l with fin := true } l) ∧ PF w w' bs o cur ty (.slice p m c) s.val := by
  have hlg : LgR w bs o p m c mk l := ⟨by rw [cell_of_row _ _ _ _ _ _ hm]; exact hc0, by rw [cell_of_row _ _ _ _ _ _ hm]; exact hc1, (Own.sl (s := ⟨p, m, c⟩) hown).2, (Own.sl (s := ⟨p, m, c⟩) hown).1, by have h : l.length = m := (Own.sl (s := ⟨p, m, c⟩) hown).1; omega⟩
  have H : Hid (LgR w bs o p m c mk l) := hlg
  have HM : Hid (w.heap[bs]? = some (.cells cur ty) ∧ Own clIt w B0 80 (.slice p m c) l) := ⟨hm, hown⟩
  have HC : Hid (cur[o]? = some (.slice p m c) ∧ cur[o + 1]? = some (.int .i64 mk)) := ⟨hc0, hc1⟩
  have HNE : Hid ((Value.slice p m c).ownBlock ≠ some bs) := hne
  have hbs := lt_of_blk hm
  obtain ⟨it0, hit⟩ : ∃ it0, it0 = itm lf wn l := ⟨_, rfl⟩
  rw [← hit]
  have HIT : Hid (it0 = itm lf wn l) := hit
  clear hlg hm hc0 hc1 hown hne hit
  go_enter Try.func69, Try.ntmps69
  go_upto_region 1 with (first | (go_at_call 77; refine (item_any _ _ _ _ _ _ _ l H.out _ _).mono ?_; rintro e w1 ⟨X, rfl, hX0, hb1⟩; rw [← HIT.out] at hX0; have HX : Hid (IsIt X it0) := hX0; clear hX0) | (refine alloc_it rfl rfl ?_; intro Z hZ) | (refine store_it_new rfl _ _ rfl X _ _ rfl rfl (by simp) HX.out hZ ?_))
  obtain ⟨g, hg⟩ : ∃ g, g = w1.heap.size := ⟨_, rfl⟩
  obtain ⟨w2, hw2⟩ : ∃ w2, w2 = w1.alloc (.cells X 80) := ⟨_, rfl⟩
  have HB2 : Hid (Below w.heap.size w w2) := by unfold Hid; rw [hw2]; exact bnext hb1 (below_alloc _ _)
  have G2 : Hid (w2.heap[g]? = some (.cells X 80)) := by unfold Hid; rw [hw2, hg]; exact heap_alloc_new _ _
  have hgw : w.heap.size ≤ g := by rw [hg]; exact hb1.size
  have y2 : w2.cell? ⟨g, 3, none⟩ = some (.bool it0.fin) := by rw [cell_of_row _ _ _ _ _ _ G2.out]; exact HX.out.get3
  have f2 : w2.frozen? ⟨g, 3, none⟩ = false := frozen_of_row _ _ _ _ _ G2.out
  rw [← hw2, ← hg]
  clear hw2 hg hb1 hZ
  go_upto_region 2 with fail
  have HX1 : Hid (IsIt (X.setIfInBounds 3 (.bool true)) { it0 with fin := true }) := HX.out.setFin _
  obtain ⟨w3, hw3⟩ : ∃ w3, w3 = w2.setCell ⟨g, 3, none⟩ (.bool true) := ⟨_, rfl⟩
  have G3 : Hid (w3.heap[g]? = some (.cells (X.setIfInBounds 3 (.bool true)) 80)) := by unfold Hid; rw [hw3, heap_setCell_same _ _ _ _ _ _ G2.out]
  have HB3 : Hid (Below w.heap.size w w3) := by
    unfold Hid; rw [hw3]
    exact ⟨HB2.out.os, HB2.out.tape, HB2.out.output, by simpa using HB2.out.size, fun k hk => by rw [heap_setCell_other _ _ _ _ (by show k ≠ g; omega)]; exact HB2.out.block k hk⟩
  rw [← hw3]
  clear hw3 y2 f2 G2 HB2 HX
  obtain ⟨X1, hX1e⟩ : ∃ X1, X1 = X.setIfInBounds 3 (.bool true) := ⟨_, rfl⟩
  rw [← hX1e] at G3 HX1
  clear hX1e
  go_wp2_with (refine load_it rfl _ rfl _ rfl X1 _ HX1.out (by exact G3.out) ?_)
  refine (put_any _ B0 bs o cur ty p m c mk l _ X1 HX1.out (by rw [HB3.out.block bs hbs]; exact HM.out.1) HC.out.1 HC.out.2 (HM.out.2.below HB3.out) HNE.out (Nat.le_trans hB0 HB3.out.size) hl).mono ?_
  rintro e w6 ⟨rfl, s, ho, pf⟩
  go_wp2
  exact bodyPost_end (results_none rfl _ _ _) rfl ⟨rfl, s, ho, pf.pre HB3.out⟩
end Go.Proofs.Ytpglbakcjihohab

/-! 'fair': may a packet come to a node, for every packet. -/
namespace Go.Proofs.Ytpglbakcjihohab
open Go.RowKit
set_option maxRecDepth 100000

/-- May an item stand in a packet of that node? -/
def okIt (t : List Int) (fr : Int) (x : It) : Bool := isNd t x.leaf && decide (0 ≤ x.win ∧ x.win < 20 ∧ 0 ≤ x.ver) && isLf t x.leaf && under t x.leaf fr
def okAt (t : List Int) (fr : Int) (l : List It) (i : Nat) : Bool :=
  ((l[i]?).map fun x => okIt t fr x && (decide (i = 0) || ((l[i - 1]?).map fun y => ahd y x).getD false)).getD false
def fairTo (t : List Int) (fr : Int) (l : List It) (k : Nat) : Prop := ∀ i, i < k → okAt t fr l i = true
def fair (t : List Int) (n fr : Int) (l : List It) : Bool := isNd t fr && decide (t.getD fr.toNat 0 = n) && (List.range l.length).all (okAt t fr l)
theorem fair_iff {t : List Int} {n fr : Int} {l : List It} : fair t n fr l = true ↔ isNd t fr = true ∧ t.getD fr.toNat 0 = n ∧ fairTo t fr l l.length := by
  unfold fair fairTo
  simp only [Bool.and_eq_true, decide_eq_true_eq, List.all_eq_true, List.mem_range, and_assoc]
theorem fair_yes {t : List Int} {n fr : Int} {l : List It} (h1 : isNd t fr = true) (h2 : t.getD fr.toNat 0 = n) (h3 : fairTo t fr l l.length) : fair t n fr l = true := fair_iff.2 ⟨h1, h2, h3⟩
theorem fair_no {t : List Int} {n fr : Int} {l : List It} (h : ¬ (isNd t fr = true ∧ t.getD fr.toNat 0 = n ∧ fairTo t fr l l.length)) : fair t n fr l = false := by
  cases e : fair t n fr l with
  | false => rfl
  | true => exact absurd (fair_iff.1 e) h
theorem fair_bad {t : List Int} {n fr : Int} {l : List It} (i : Nat) (hi : i < l.length) (h : okAt t fr l i = false) : fair t n fr l = false := fair_no fun ⟨_, _, h3⟩ => by rw [h3 i hi] at h; cases h

section
variable {ops : Array Oper} {o : Oper} {a : Act} {S : World → Prop}
theorem yieldsIf_load_it_mid (hw : Region.wanted o (yielded ops a.tmps) = true) (x : Operand) (ho : o.op = .load 80 x) (g off : Nat) (hx : a.eval x = .pointer (some ⟨g, off, none⟩)) (A : Array Value) (s : It) (hA : IsIt A s)
    (hS : ∀ w, S w → w.rangeAt g off s.cells) : YieldsIf Try.prog ops S o (.agg A) a := by
  have e : A = s.cells.toArray := by rw [← show A.toList = s.cells from hA]
  rw [e]
  exact yieldsIf_load_mid hw _ x ho g off hx s.cells _ hS Try.underlying80 rfl (info_it' s)
theorem yieldsIf_load_it (hw : Region.wanted o (yielded ops a.tmps) = true) (x : Operand) (ho : o.op = .load 80 x) (g : Nat) (hx : a.eval x = .pointer (some ⟨g, 0, none⟩)) (A : Array Value) (s : It) (hA : IsIt A s)
    (hS : ∀ w, S w → w.heap[g]? = some (.cells A 80)) : YieldsIf Try.prog ops S o (.agg A) a :=
  .inl ⟨hw, fun w hw' => by
    unfold execOp
    simp only [ho, hx, Instr.loadAt, Instr.sureAddr, Sem.run_bind, Sem.run_pure, Result.andThen_ok, run_loadVar_row w g _ _ A (0, 0) _ (hS w hw') Try.underlying80 rfl (info_it hA)]⟩
end
end Go.Proofs.Ytpglbakcjihohab

/-! The program's ledger takes an item that came: which is newer, and where it is laid. -/
namespace Go.Proofs.Ytpglbakcjihohab
open Go.RowKit
set_option maxRecDepth 100000

theorem jin_new (x : It) (l : List It) (h : atk x.leaf x.win l (plc x.leaf x.win l) = false) : jin x l = pin x l := by
  induction l with
  | nil => rfl
  | cons y l ih =>
    by_cases h1 : ahd y x = true
    · have h1' := ahd_iff.1 h1
      have h2 : ¬ ahd x y = true := by rw [ahd_iff]; omega
      have h3 : ¬ (y.leaf = x.leaf ∧ y.win = x.win) := by omega
      have ha : ahk y x.leaf x.win = true := by unfold ahd at h1; unfold ahk; exact h1
      have e : plc x.leaf x.win (y :: l) = plc x.leaf x.win l + 1 := by simp [plc, ha]
      rw [e] at h
      have h' : atk x.leaf x.win l (plc x.leaf x.win l) = false := by unfold atk at h ⊢; simpa using h
      simp only [jin, pin, if_neg h2, if_neg h3, if_pos h1, ih h']
    · have ha : ¬ ahk y x.leaf x.win = true := by unfold ahd at h1; unfold ahk; exact h1
      have e : plc x.leaf x.win (y :: l) = 0 := by simp [plc, ha]
      rw [e] at h
      have h3 : ¬ (y.leaf = x.leaf ∧ y.win = x.win) := by unfold atk at h; simpa using h
      have h2 : ahd x y = true := by rw [ahd_iff] at *; omega
      simp only [jin, pin, if_pos h2, if_neg h3, if_neg h1]
theorem jin_at (x : It) (l : List It) (y : It) (h : atk x.leaf x.win l (plc x.leaf x.win l) = true) (hy : l[plc x.leaf x.win l]? = some y) : jin x l = if nwr x y = true then pin x l else l := by
  induction l with
  | nil => simp at hy
  | cons z l ih =>
    by_cases h1 : ahd z x = true
    · have h1' := ahd_iff.1 h1
      have h2 : ¬ ahd x z = true := by rw [ahd_iff]; omega
      have h3 : ¬ (z.leaf = x.leaf ∧ z.win = x.win) := by omega
      have ha : ahk z x.leaf x.win = true := by unfold ahd at h1; unfold ahk; exact h1
      have e : plc x.leaf x.win (z :: l) = plc x.leaf x.win l + 1 := by simp [plc, ha]
      rw [e] at h hy
      have h' : atk x.leaf x.win l (plc x.leaf x.win l) = true := by unfold atk at h ⊢; simpa using h
      have hy' : l[plc x.leaf x.win l]? = some y := by simpa using hy
      simp only [jin, pin, if_neg h2, if_neg h3, if_pos h1, ih h' hy']
      split <;> rfl
    · have ha : ¬ ahk z x.leaf x.win = true := by unfold ahd at h1; unfold ahk; exact h1
      have e : plc x.leaf x.win (z :: l) = 0 := by simp [plc, ha]
      rw [e] at h hy
      have h3 : z.leaf = x.leaf ∧ z.win = x.win := by unfold atk at h; simpa using h
      have h2 : ¬ ahd x z = true := by rw [ahd_iff]; omega
      obtain rfl : z = y := by simpa using hy
      simp only [jin, pin, if_neg h2, if_pos h3, if_neg h1]
      split <;> rfl
set_option maxHeartbeats 1000000 in
theorem isNewer_any (x y : It) (A B : Array Value) (hA : IsIt A x) (hB : IsIt B y) (w : World) :
    Calls Try.prog 53 #[.agg A, .agg B] w fun e w' => e = .returned (.bool (nwr x y)) ∧ Below w.heap.size w w' := by
  have a2 := hA.get2
  have a3 := hA.get3
  have b2 := hB.get2
  have b3 := hB.get3
  obtain ⟨xl, xw, xv, xf, xs⟩ := x
  obtain ⟨yl, yw, yv, yf, ys⟩ := y
  clear hA hB
  by_cases h2 : xv = yv
  · subst h2
    have hb : (xv != xv) = false := by simp
    cases xf with
    | true =>
      cases yf with
      | true =>
        have HE : Hid (nwr ⟨xl, xw, xv, true, xs⟩ ⟨yl, yw, xv, true, ys⟩ = false) := by unfold Hid nwr; simp
        go_enter Try.func53, Try.ntmps53
        go_wp2
        go_ret
        exact ⟨by rw [HE.out]; rfl, below_alloc2 _ _ _⟩
      | false =>
        have HE : Hid (nwr ⟨xl, xw, xv, true, xs⟩ ⟨yl, yw, xv, false, ys⟩ = true) := by unfold Hid nwr; simp
        go_enter Try.func53, Try.ntmps53
        go_wp2
        go_ret
        exact ⟨by rw [HE.out]; rfl, below_alloc2 _ _ _⟩
    | false =>
      have HE : Hid (nwr ⟨xl, xw, xv, false, xs⟩ ⟨yl, yw, xv, yf, ys⟩ = false) := by unfold Hid nwr; simp
      go_enter Try.func53, Try.ntmps53
      go_wp2
      go_ret
      exact ⟨by rw [HE.out]; rfl, below_alloc2 _ _ _⟩
  · have hb : (xv != yv) = true := by simp [h2]
    by_cases h1 : yv < xv
    · have HE : Hid (nwr ⟨xl, xw, xv, xf, xs⟩ ⟨yl, yw, yv, yf, ys⟩ = true) := by unfold Hid nwr; simp [h1]
      go_enter Try.func53, Try.ntmps53
      go_wp2
      go_ret
      exact ⟨by rw [HE.out]; rfl, below_alloc2 _ _ _⟩
    · have HE : Hid (nwr ⟨xl, xw, xv, xf, xs⟩ ⟨yl, yw, yv, yf, ys⟩ = false) := by unfold Hid nwr; simp [h1, h2]
      go_enter Try.func53, Try.ntmps53
      go_wp2
      go_ret
      exact ⟨by rw [HE.out]; rfl, below_alloc2 _ _ _⟩
section
variable {ops : Array Oper} {i : Nat} {o : Oper} {a : Act} {w : World} {Q : Exit → Act → World → Prop} {K : Act → World → Prop}
theorem wpOp_of_wanted (hi : ops[i]? = some o) (hw : Region.wanted o (yielded ops a.tmps) = true) (h : o.wp Try.prog a w K Q) : wpOp Try.prog ops Q i K a w := by
  unfold wpOp
  simp only [hi, hw, if_true]
  exact .inl h
end
set_option maxHeartbeats 4000000 in
theorem lTake_any (w : World) (B0 bs o : Nat) (cur : Array Value) (ty : TypeId) (p : Option Addr) (m c : Nat) (mk : Int) (l : List It) (x : It) (X : Array Value) (hX : IsIt X x)
    (hm : w.heap[bs]? = some (.cells cur ty)) (hc0 : cur[o]? = some (.slice p m c)) (hc1 : cur[o + 1]? = some (.int .i64 mk)) (hown : Own clIt w B0 80 (.slice p m c) l) (hne : (Value.slice p m c).ownBlock ≠ some bs) (hB0 : B0 ≤ w.heap.size) (hl : l.length ≤ 1000) :
    Calls Try.prog 28 #[.pointer (some ⟨bs, o, none⟩), .agg X] w fun e w' => e = .returned (.tuple #[]) ∧ ∃ s : Sl, Own clIt w' B0 80 s.val (jin x l) ∧ PF w w' bs o cur ty (.slice p m c) s.val := by
  have hlg : LgR w bs o p m c mk l := ⟨by rw [cell_of_row _ _ _ _ _ _ hm]; exact hc0, by rw [cell_of_row _ _ _ _ _ _ hm]; exact hc1, (Own.sl (s := ⟨p, m, c⟩) hown).2, (Own.sl (s := ⟨p, m, c⟩) hown).1, by have h : l.length = m := (Own.sl (s := ⟨p, m, c⟩) hown).1; omega⟩
  have H : Hid (LgR w bs o p m c mk l) := hlg
  have HX : Hid (IsIt X x) := hX
  have HM : Hid (w.heap[bs]? = some (.cells cur ty) ∧ cur[o]? = some (.slice p m c) ∧ Own clIt w B0 80 (.slice p m c) l ∧ (Value.slice p m c).ownBlock ≠ some bs) := ⟨hm, hc0, hown, hne⟩
  have HC1 : Hid (cur[o + 1]? = some (.int .i64 mk)) := hc1
  have hbs := lt_of_blk hm
  have hlen := hlg.len
  have hpl := plc_le x.leaf x.win l
  have HNEW : Hid (atk x.leaf x.win l (plc x.leaf x.win l) = false → jin x l = pin x l) := jin_new x l
  have HAT : Hid (∀ y, atk x.leaf x.win l (plc x.leaf x.win l) = true → l[plc x.leaf x.win l]? = some y → jin x l = if nwr x y = true then pin x l else l) := jin_at x l
  have x0 := hX.get0
  have x1 := hX.get1
  have hmm : m ≤ 1000 := by omega
  clear hlg hX hm hc0 hc1 hown hne
  obtain ⟨q, hq⟩ : ∃ q, q = plc x.leaf x.win l := ⟨_, rfl⟩
  rw [← hq] at HNEW HAT hpl
  obtain ⟨av, hav⟩ : ∃ av, atk x.leaf x.win l q = av := ⟨_, rfl⟩
  rw [hav] at HNEW HAT
  have HQ : Hid (q = plc x.leaf x.win l) := hq
  have HV : Hid (atk x.leaf x.win l q = av) := hav
  obtain ⟨lf, hlf⟩ : ∃ lf, lf = x.leaf := ⟨_, rfl⟩
  obtain ⟨wn, hwn⟩ : ∃ wn, wn = x.win := ⟨_, rfl⟩
  rw [← hlf] at x0 HQ HV hav
  rw [← hwn] at x1 HQ HV hav
  clear hq hlf hwn
  cases av with
  | true =>
    have hqm : q < m := by
      rcases Nat.lt_or_ge q l.length with h | h
      · omega
      · unfold atk at hav; rw [List.getElem?_eq_none h] at hav; simp at hav
    obtain ⟨y, hy⟩ : ∃ y, l[q]? = some y := ⟨_, List.getElem?_eq_getElem (by omega)⟩
    obtain ⟨g, rfl⟩ := HM.out.2.2.1.some_of (by omega)
    have HJ : Hid (jin x l = if nwr x y = true then pin x l else l) := HAT.out y rfl hy
    obtain ⟨nv, hnv⟩ : ∃ nv, nwr x y = nv := ⟨_, rfl⟩
    rw [hnv] at HJ
    have HNV : Hid (nwr x y = nv) := hnv
    have HRG : Hid (w.rangeAt g (q * 32) y.cells) := HM.out.2.2.1.range q y hy
    obtain ⟨Y, hY⟩ : ∃ Y, IsIt Y y := ⟨_, isIt_of y⟩
    have HY : Hid (IsIt Y y) := hY
    have hgl : g < w.heap.size := (HM.out.2.2.1.lt g rfl).2
    clear hav hy hnv HNEW HAT hY
    go_enter Try.func28, Try.ntmps28
    go_upto_region 3 with (first | (go_at_call 51; refine (place_any _ _ _ _ _ _ _ l (H.out.below (below_alloc _ _)) _ _).mono ?_; rintro e w1 ⟨rfl, hb1⟩; rw [← HQ.out]; have H1 : Hid _ := (H.out.below (below_alloc _ _)).below hb1; have hB1 : Hid _ := bnext (below_alloc _ _) hb1; have gX : Hid (w1.heap[w.heap.size]? = some (.cells X 80)) := keep hb1 (heap_alloc_new w _); have z0 : w1.cell? ⟨w.heap.size, 0, none⟩ = some (.int .i64 lf) := (by rw [cell_of_row _ _ _ _ _ _ gX.out]; exact x0); have z1 : w1.cell? ⟨w.heap.size, 1, none⟩ = some (.int .i64 wn) := (by rw [cell_of_row _ _ _ _ _ _ gX.out]; exact x1); clear hb1) | (go_at_call 52; refine (isAt_any _ _ _ _ _ _ _ l H1.out q _ _ (by omega)).mono ?_; rintro e w2 ⟨rfl, rfl⟩; rw [HV.out]))
    rename World => w1
    have HR1 : Hid (w1.rangeAt g (q * 32) y.cells) := range_below hB1.out hgl HRG.out
    have q0 : (0 : Int) ≤ (q : Int) := by omega
    have q1 : (q : Int) < (m : Int) := by omega
    have hT0 : (fun w' : World => w'.cell? ⟨bs, o, none⟩ = some (.slice (some ⟨g, 0, none⟩) m c) ∧ w'.heap[w.heap.size]? = some (.cells X 80) ∧ w'.rangeAt g (q * 32) y.cells) w1.drew := ⟨H1.out.c0, gX.out, HR1.out⟩
    clear z0 z1
    refine wp_region_held (S := fun w' : World => w'.cell? ⟨bs, o, none⟩ = some (.slice (some ⟨g, 0, none⟩) m c) ∧ w'.heap[w.heap.size]? = some (.cells X 80) ∧ w'.rangeAt g (q * 32) y.cells) mixed ?_
    refine wpAnyH_take (i := 0) (v := (.bool true)) rfl (by kernel_rfl) (by kernel_rfl) (by kernel_rfl) (fun _ _ _ h => h) (Or.inl ⟨by rfl, fun wx hx => by go_simp⟩) hT0 ?_
    try dsimp only
    try simp only [Act.put, List.getElem_toArray, List.getElem_cons_succ, List.getElem_cons_zero, List.setIfInBounds_toArray, List.set_cons_zero, List.set_cons_succ]
    refine wpAnyH_take (i := 1) (v := (.bool true)) rfl (by kernel_rfl) (by kernel_rfl) (by kernel_rfl) (fun _ _ _ h => h) (Or.inl ⟨by rfl, fun wx hx => by go_simp⟩) hT0 ?_
    try dsimp only
    try simp only [Act.put, List.getElem_toArray, List.getElem_cons_succ, List.getElem_cons_zero, List.setIfInBounds_toArray, List.set_cons_zero, List.set_cons_succ]
    refine wpAnyH_take (i := 2) (v := (.agg X)) rfl (by kernel_rfl) (by kernel_rfl) (by kernel_rfl) (fun _ _ _ h => h) (yieldsIf_load_itB (by rfl) _ rfl _ rfl X _ HX.out (fun wx hx => hx.2.1)) hT0 ?_
    try dsimp only
    try simp only [Act.put, List.getElem_toArray, List.getElem_cons_succ, List.getElem_cons_zero, List.setIfInBounds_toArray, List.set_cons_zero, List.set_cons_succ]
    refine wpAnyH_take (i := 3) (v := (.pointer (some ⟨bs, o, none⟩))) rfl (by kernel_rfl) (by kernel_rfl) (by kernel_rfl) (fun _ _ _ h => h) (Or.inl ⟨by rfl, fun wx hx => by go_simp⟩) hT0 ?_
    try dsimp only
    try simp only [Act.put, List.getElem_toArray, List.getElem_cons_succ, List.getElem_cons_zero, List.setIfInBounds_toArray, List.set_cons_zero, List.set_cons_succ]
    refine wpAnyH_take (i := 4) (v := (.pointer (some ⟨bs, o, none⟩))) rfl (by kernel_rfl) (by kernel_rfl) (by kernel_rfl) (fun _ _ _ h => h) (Or.inl ⟨by rfl, fun wx hx => by go_simp⟩) hT0 ?_
    try dsimp only
    try simp only [Act.put, List.getElem_toArray, List.getElem_cons_succ, List.getElem_cons_zero, List.setIfInBounds_toArray, List.set_cons_zero, List.set_cons_succ]
    refine wpAnyH_take (i := 5) (v := (.pointer (some ⟨bs, o, none⟩))) rfl (by kernel_rfl) (by kernel_rfl) (by kernel_rfl) (fun _ _ _ h => h) (Or.inl ⟨by rfl, fun wx hx => by go_simp⟩) hT0 ?_
    try dsimp only
    try simp only [Act.put, List.getElem_toArray, List.getElem_cons_succ, List.getElem_cons_zero, List.setIfInBounds_toArray, List.set_cons_zero, List.set_cons_succ]
    refine wpAnyH_take (i := 6) (v := (.slice (some ⟨g, 0, none⟩) m c)) rfl (by kernel_rfl) (by kernel_rfl) (by kernel_rfl) (fun _ _ _ h => h) (Or.inl ⟨by rfl, fun wx hx => by have hx1 := hx.1; go_simp⟩) hT0 ?_
    try dsimp only
    try simp only [Act.put, List.getElem_toArray, List.getElem_cons_succ, List.getElem_cons_zero, List.setIfInBounds_toArray, List.set_cons_zero, List.set_cons_succ]
    refine wpAnyH_take (i := 7) (v := (.int .i64 q)) rfl (by kernel_rfl) (by kernel_rfl) (by kernel_rfl) (fun _ _ _ h => h) (Or.inl ⟨by rfl, fun wx hx => by go_simp⟩) hT0 ?_
    try dsimp only
    try simp only [Act.put, List.getElem_toArray, List.getElem_cons_succ, List.getElem_cons_zero, List.setIfInBounds_toArray, List.set_cons_zero, List.set_cons_succ]
    refine wpAnyH_take (i := 8) (v := (.pointer (some ⟨g, q * 32, none⟩))) rfl (by kernel_rfl) (by kernel_rfl) (by kernel_rfl) (fun _ _ _ h => h) (Or.inl ⟨by rfl, fun wx hx => by go_simp⟩) hT0 ?_
    try dsimp only
    try simp only [Act.put, List.getElem_toArray, List.getElem_cons_succ, List.getElem_cons_zero, List.setIfInBounds_toArray, List.set_cons_zero, List.set_cons_succ]
    refine wpAnyH_take (i := 9) (v := (.agg Y)) rfl (by kernel_rfl) (by kernel_rfl) (by kernel_rfl) (fun _ _ _ h => h) (yieldsIf_load_it_mid (by rfl) _ rfl _ _ rfl Y _ HY.out (fun wx hx => hx.2.2)) hT0 ?_
    try dsimp only
    try simp only [Act.put, List.getElem_toArray, List.getElem_cons_succ, List.getElem_cons_zero, List.setIfInBounds_toArray, List.set_cons_zero, List.set_cons_succ]
    refine wpAnyH_all (rs := [10]) (by kernel_rfl) (by simp) ?_
    intro jj hjj
    simp only [List.mem_cons, List.not_mem_nil, or_false] at hjj
    subst hjj
    refine wpOp_of_wanted rfl (by rfl) ?_
    go_simp
    refine (isNewer_any x y X Y HX.out HY.out w1.drew).mono ?_
    rintro e w5 ⟨rfl, hb5⟩
    replace hb5 : Below w1.heap.size w1 w5 := below_drawn' hb5
    rw [HNV.out]
    have HB5 : Hid (Below w.heap.size w w5) := bnext hB1.out hb5
    have G5 : Hid (w5.heap[w.heap.size]? = some (.cells X 80)) := keep hb5 gX.out
    have hT1 : (fun w' : World => w'.cell? ⟨bs, o, none⟩ = some (.slice (some ⟨g, 0, none⟩) m c) ∧ w'.heap[w.heap.size]? = some (.cells X 80) ∧ w'.rangeAt g (q * 32) y.cells) w5 := ⟨cell_keep hb5 H1.out.c0, G5.out, range_below hb5 (Nat.lt_of_lt_of_le hgl hB1.out.size) HR1.out⟩
    cases nv with
    | false =>
      refine ⟨hT1, ?_⟩
      try dsimp only
      try simp only [Act.put, List.getElem_toArray, List.getElem_cons_succ, List.getElem_cons_zero, List.setIfInBounds_toArray, List.set_cons_zero, List.set_cons_succ]
      refine wpAnyH_take (i := 11) (v := (.bool true)) rfl (by kernel_rfl) (by kernel_rfl) (by kernel_rfl) (fun _ _ _ h => h) (Or.inl ⟨by rfl, fun wx hx => by go_simp⟩) hT1 ?_
      try dsimp only
      try simp only [Act.put, List.getElem_toArray, List.getElem_cons_succ, List.getElem_cons_zero, List.setIfInBounds_toArray, List.set_cons_zero, List.set_cons_succ]
      refine wpAnyH_take (i := 12) (v := (.bool true)) rfl (by kernel_rfl) (by kernel_rfl) (by kernel_rfl) (fun _ _ _ h => h) (Or.inl ⟨by rfl, fun wx hx => by go_simp⟩) hT1 ?_
      try dsimp only
      try simp only [Act.put, List.getElem_toArray, List.getElem_cons_succ, List.getElem_cons_zero, List.setIfInBounds_toArray, List.set_cons_zero, List.set_cons_succ]
      refine wpAnyH_done (by kernel_rfl) ?_ _
      clear hT0 hT1 hb5
      have HJ' : Hid (jin x l = l) := by unfold Hid; rw [HJ.out]; rfl
      go_wp2
      exact bodyPost_ret (results_none rfl _ _ _) rfl ⟨rfl, ⟨some ⟨g, 0, none⟩, m, c⟩, by rw [HJ'.out]; exact HM.out.2.2.1.below HB5.out, PF.start HB5.out HM.out.1 HM.out.2.1⟩
    | true =>
      refine ⟨hT1, ?_⟩
      try dsimp only
      try simp only [Act.put, List.getElem_toArray, List.getElem_cons_succ, List.getElem_cons_zero, List.setIfInBounds_toArray, List.set_cons_zero, List.set_cons_succ]
      refine wpAnyH_take (i := 11) (v := (.bool false)) rfl (by kernel_rfl) (by kernel_rfl) (by kernel_rfl) (fun _ _ _ h => h) (Or.inl ⟨by rfl, fun wx hx => by go_simp⟩) hT1 ?_
      try dsimp only
      try simp only [Act.put, List.getElem_toArray, List.getElem_cons_succ, List.getElem_cons_zero, List.setIfInBounds_toArray, List.set_cons_zero, List.set_cons_succ]
      refine wpAnyH_take (i := 12) (v := (.bool false)) rfl (by kernel_rfl) (by kernel_rfl) (by kernel_rfl) (fun _ _ _ h => h) (Or.inl ⟨by rfl, fun wx hx => by go_simp⟩) hT1 ?_
      try dsimp only
      try simp only [Act.put, List.getElem_toArray, List.getElem_cons_succ, List.getElem_cons_zero, List.setIfInBounds_toArray, List.set_cons_zero, List.set_cons_succ]
      refine wpAnyH_done (by kernel_rfl) ?_ _
      clear hT0 hT1 hb5
      have HJ' : Hid (jin x l = pin x l) := by unfold Hid; rw [HJ.out]; rfl
      go_wp2_with (refine load_it rfl _ rfl _ rfl X _ HX.out (by exact G5.out) ?_)
      refine (put_any _ B0 bs o cur ty _ m c mk l x X HX.out (by rw [HB5.out.block bs hbs]; exact HM.out.1) HM.out.2.1 HC1.out (HM.out.2.2.1.below HB5.out) HM.out.2.2.2 (Nat.le_trans hB0 HB5.out.size) hl).mono ?_
      rintro e w6 ⟨rfl, s, ho, pf⟩
      go_wp2
      exact bodyPost_end (results_none rfl _ _ _) rfl ⟨rfl, s, by rw [HJ'.out]; exact ho, pf.pre HB5.out⟩
  | false =>
    have HJ : Hid (jin x l = pin x l) := HNEW.out rfl
    clear hav HNEW HAT
    go_enter Try.func28, Try.ntmps28
    go_upto_region 3 with (first | (go_at_call 51; refine (place_any _ _ _ _ _ _ _ l (H.out.below (below_alloc _ _)) _ _).mono ?_; rintro e w1 ⟨rfl, hb1⟩; rw [← HQ.out]; have H1 : Hid _ := (H.out.below (below_alloc _ _)).below hb1; have hB1 : Hid _ := bnext (below_alloc _ _) hb1; have gX : Hid (w1.heap[w.heap.size]? = some (.cells X 80)) := keep hb1 (heap_alloc_new w _); have z0 : w1.cell? ⟨w.heap.size, 0, none⟩ = some (.int .i64 lf) := (by rw [cell_of_row _ _ _ _ _ _ gX.out]; exact x0); have z1 : w1.cell? ⟨w.heap.size, 1, none⟩ = some (.int .i64 wn) := (by rw [cell_of_row _ _ _ _ _ _ gX.out]; exact x1); clear hb1) | (go_at_call 52; refine (isAt_any _ _ _ _ _ _ _ l H1.out q _ _ (by omega)).mono ?_; rintro e w2 ⟨rfl, rfl⟩; rw [HV.out]))
    rename World => w1
    have hT0 : (fun w' : World => w.heap.size ≤ w'.heap.size) w1.drew := hB1.out.size
    clear z0 z1
    refine wp_region_held (S := fun w' : World => w.heap.size ≤ w'.heap.size) mixed ?_
    refine wpAnyH_take (i := 0) (v := (.bool false)) rfl (by kernel_rfl) (by kernel_rfl) (by kernel_rfl) (fun _ _ _ h => h) (Or.inl ⟨by rfl, fun wx hx => by go_simp⟩) hT0 ?_
    try dsimp only
    try simp only [Act.put, List.getElem_toArray, List.getElem_cons_succ, List.getElem_cons_zero, List.setIfInBounds_toArray, List.set_cons_zero, List.set_cons_succ]
    refine wpAnyH_take (i := 1) (v := (.bool false)) rfl (by kernel_rfl) (by kernel_rfl) (by kernel_rfl) (fun _ _ _ h => h) (Or.inl ⟨by rfl, fun wx hx => by go_simp⟩) hT0 ?_
    try dsimp only
    try simp only [Act.put, List.getElem_toArray, List.getElem_cons_succ, List.getElem_cons_zero, List.setIfInBounds_toArray, List.set_cons_zero, List.set_cons_succ]
    refine wpAnyH_take (i := 2) (v := undef) rfl (by kernel_rfl) (by kernel_rfl) (by kernel_rfl) (fun _ _ _ h => h) (Or.inr ⟨by rfl, rfl⟩) hT0 ?_
    try dsimp only
    try simp only [Act.put, List.getElem_toArray, List.getElem_cons_succ, List.getElem_cons_zero, List.setIfInBounds_toArray, List.set_cons_zero, List.set_cons_succ]
    refine wpAnyH_take (i := 3) (v := undef) rfl (by kernel_rfl) (by kernel_rfl) (by kernel_rfl) (fun _ _ _ h => h) (Or.inr ⟨by rfl, rfl⟩) hT0 ?_
    try dsimp only
    try simp only [Act.put, List.getElem_toArray, List.getElem_cons_succ, List.getElem_cons_zero, List.setIfInBounds_toArray, List.set_cons_zero, List.set_cons_succ]
    refine wpAnyH_take (i := 4) (v := undef) rfl (by kernel_rfl) (by kernel_rfl) (by kernel_rfl) (fun _ _ _ h => h) (Or.inr ⟨by rfl, rfl⟩) hT0 ?_
    try dsimp only
    try simp only [Act.put, List.getElem_toArray, List.getElem_cons_succ, List.getElem_cons_zero, List.setIfInBounds_toArray, List.set_cons_zero, List.set_cons_succ]
    refine wpAnyH_take (i := 5) (v := undef) rfl (by kernel_rfl) (by kernel_rfl) (by kernel_rfl) (fun _ _ _ h => h) (Or.inr ⟨by rfl, rfl⟩) hT0 ?_
    try dsimp only
    try simp only [Act.put, List.getElem_toArray, List.getElem_cons_succ, List.getElem_cons_zero, List.setIfInBounds_toArray, List.set_cons_zero, List.set_cons_succ]
    refine wpAnyH_take (i := 6) (v := undef) rfl (by kernel_rfl) (by kernel_rfl) (by kernel_rfl) (fun _ _ _ h => h) (Or.inr ⟨by rfl, rfl⟩) hT0 ?_
    try dsimp only
    try simp only [Act.put, List.getElem_toArray, List.getElem_cons_succ, List.getElem_cons_zero, List.setIfInBounds_toArray, List.set_cons_zero, List.set_cons_succ]
    refine wpAnyH_take (i := 7) (v := undef) rfl (by kernel_rfl) (by kernel_rfl) (by kernel_rfl) (fun _ _ _ h => h) (Or.inr ⟨by rfl, rfl⟩) hT0 ?_
    try dsimp only
    try simp only [Act.put, List.getElem_toArray, List.getElem_cons_succ, List.getElem_cons_zero, List.setIfInBounds_toArray, List.set_cons_zero, List.set_cons_succ]
    refine wpAnyH_take (i := 8) (v := undef) rfl (by kernel_rfl) (by kernel_rfl) (by kernel_rfl) (fun _ _ _ h => h) (Or.inr ⟨by rfl, rfl⟩) hT0 ?_
    try dsimp only
    try simp only [Act.put, List.getElem_toArray, List.getElem_cons_succ, List.getElem_cons_zero, List.setIfInBounds_toArray, List.set_cons_zero, List.set_cons_succ]
    refine wpAnyH_take (i := 9) (v := undef) rfl (by kernel_rfl) (by kernel_rfl) (by kernel_rfl) (fun _ _ _ h => h) (Or.inr ⟨by rfl, rfl⟩) hT0 ?_
    try dsimp only
    try simp only [Act.put, List.getElem_toArray, List.getElem_cons_succ, List.getElem_cons_zero, List.setIfInBounds_toArray, List.set_cons_zero, List.set_cons_succ]
    refine wpAnyH_take (i := 10) (v := undef) rfl (by kernel_rfl) (by kernel_rfl) (by kernel_rfl) (fun _ _ _ h => h) (Or.inr ⟨by rfl, rfl⟩) hT0 ?_
    try dsimp only
    try simp only [Act.put, List.getElem_toArray, List.getElem_cons_succ, List.getElem_cons_zero, List.setIfInBounds_toArray, List.set_cons_zero, List.set_cons_succ]
    refine wpAnyH_take (i := 11) (v := undef) rfl (by kernel_rfl) (by kernel_rfl) (by kernel_rfl) (fun _ _ _ h => h) (Or.inr ⟨by rfl, rfl⟩) hT0 ?_
    try dsimp only
    try simp only [Act.put, List.getElem_toArray, List.getElem_cons_succ, List.getElem_cons_zero, List.setIfInBounds_toArray, List.set_cons_zero, List.set_cons_succ]
    refine wpAnyH_take (i := 12) (v := (.bool false)) rfl (by kernel_rfl) (by kernel_rfl) (by kernel_rfl) (fun _ _ _ h => h) (Or.inl ⟨by rfl, fun wx hx => by go_simp⟩) hT0 ?_
    try dsimp only
    try simp only [Act.put, List.getElem_toArray, List.getElem_cons_succ, List.getElem_cons_zero, List.setIfInBounds_toArray, List.set_cons_zero, List.set_cons_succ]
    refine wpAnyH_done (by kernel_rfl) ?_ _
    clear hT0
    obtain ⟨w5, hw5⟩ : ∃ w5, w5 = w1.drew := ⟨_, rfl⟩
    have HB5 : Hid (Below w.heap.size w w5) := by unfold Hid; rw [hw5]; exact below_drawn hB1.out _
    have G5 : Hid (w5.heap[w.heap.size]? = some (.cells X 80)) := by unfold Hid; rw [hw5]; exact gX.out
    show Exit.then _ _ Exit.normal _ w1.drew
    rw [← hw5]
    clear hw5
    go_wp2_with (refine load_it rfl _ rfl _ rfl X _ HX.out (by exact G5.out) ?_)
    refine (put_any _ B0 bs o cur ty _ m c mk l x X HX.out (by rw [HB5.out.block bs hbs]; exact HM.out.1) HM.out.2.1 HC1.out (HM.out.2.2.1.below HB5.out) HM.out.2.2.2 (Nat.le_trans hB0 HB5.out.size) hl).mono ?_
    rintro e w6 ⟨rfl, s, ho, pf⟩
    go_wp2
    exact bodyPost_end (results_none rfl _ _ _) rfl ⟨rfl, s, by rw [HJ.out]; exact ho, pf.pre HB5.out⟩
end Go.Proofs.Ytpglbakcjihohab

/-! The program's tree: which node there is, which is a leaf, which is under which; how many leaves are under a node. -/
namespace Go.Proofs.Ytpglbakcjihohab
open Go.RowKit
set_option maxRecDepth 100000

structure PTree (w : World) (bs : Nat) (t : List Int) : Prop where
  len : w.cell? ⟨bs, 0, none⟩ = some (.int .i64 t.length)
  up : ∀ k, k < t.length → w.cell? ⟨bs, 1 + k, none⟩ = some (.int .i64 (t.getD k (-1)))
set_option maxHeartbeats 400000 in
theorem sHas_any (w : World) (bs : Nat) (t : List Int) (h : PTree w bs t) (n : Int) :
    Calls Try.prog 47 #[.pointer (some ⟨bs, 0, none⟩), .int .i64 n] w fun e w' => e = .returned (.bool (isNd t n)) ∧ w' = w := by
  obtain ⟨c1, _⟩ := h
  obtain ⟨N, hN'⟩ : ∃ N, t.length = N := ⟨_, rfl⟩
  rw [hN'] at c1
  by_cases h0 : 0 ≤ n
  · by_cases h1 : n < N
    · have H : Hid (isNd t n = true) := by unfold Hid isNd; rw [hN']; simp [h0, h1]
      go_enter Try.func47, Try.ntmps47
      go_wp2
      go_ret
      exact ⟨by rw [H.out]; rfl, rfl⟩
    · have H : Hid (isNd t n = false) := by unfold Hid isNd; rw [hN']; simp [h1]
      go_enter Try.func47, Try.ntmps47
      go_wp2
      go_ret
      exact ⟨by rw [H.out]; rfl, rfl⟩
  · have H : Hid (isNd t n = false) := by unfold Hid isNd; simp [h0]
    go_enter Try.func47, Try.ntmps47
    go_wp2
    go_ret
    exact ⟨by rw [H.out]; rfl, rfl⟩
def sLf (t : List Int) (n : Int) : Bool := isNd t n && isLf t n
theorem sLf_nd {t : List Int} {n : Int} (h : isNd t n = true) : sLf t n = isLf t n := by unfold sLf; rw [h]; simp
theorem getD_of {t : List Int} {k : Nat} (hk : k < t.length) : t.getD k (-1) = t[k] := by simp [List.getD, List.getElem?_eq_getElem hk]
set_option maxHeartbeats 400000 in
theorem sIsLeaf_any (w : World) (bs : Nat) (t : List Int) (h : PTree w bs t) (n : Int) (hN : t.length ≤ 8) :
    Calls Try.prog 71 #[.pointer (some ⟨bs, 0, none⟩), .int .i64 n] w fun e w' => e = .returned (.bool (sLf t n)) ∧ w' = w := by
  have HH : Hid (PTree w bs t) := h
  obtain ⟨c1, hr⟩ := h
  obtain ⟨N, hN'⟩ : ∃ N, t.length = N := ⟨_, rfl⟩
  rw [hN'] at c1 hN
  by_cases hnd : isNd t n = true
  · go_enter Try.func71, Try.ntmps71
    go_wp2_with (go_at_call 47; refine (sHas_any _ _ t HH.out _).mono ?_; rintro e w1 ⟨rfl, rfl⟩; rw [hnd])
    rename World => w
    go_loop [5] (fun i => ∃ k : Nat, k ≤ N ∧ i = .int .i64 k ∧ n ∉ t.take k) (fun i => N - (intOf i).toNat)
    case atStart => exact ⟨0, by omega, rfl, by simp⟩
    case round =>
      obtain ⟨k, hk, rfl, hnot⟩ := hrel
      have HN : Hid (n ∉ t.take k) := hnot
      clear hnot
      by_cases hlt : k < N
      · have d1 := hr k (by omega)
        obtain ⟨x, hx⟩ : ∃ x, x = t.getD k (-1) := ⟨_, rfl⟩
        have hx' : x = t[k]'(by omega) := by rw [hx]; exact getD_of (by omega)
        rw [← hx] at d1
        by_cases e : x = n
        · have H : Hid (sLf t n = false) := by unfold Hid; rw [sLf_nd hnd]; unfold isLf; simp only [decide_eq_false_iff_not, Classical.not_not]; rw [← e, hx']; exact List.getElem_mem _
          clear hx hx' hr
          subst e
          go_wp2
          go_ret
          exact ⟨by rw [H.out]; rfl, rfl⟩
        · have H : Hid (n ∉ t.take (k + 1)) := by unfold Hid; rw [mem_take_succ t k (by omega)]; exact ⟨HN.out, by rw [← hx']; exact e⟩
          clear hx hx' hr
          go_wp2
          go_round
          case rel => exact ⟨k + 1, by omega, by go_num, H.out⟩
          case measure => simp [intOf]; omega
      · obtain rfl : k = N := by omega
        have H : Hid (sLf t n = true) := by unfold Hid; rw [sLf_nd hnd]; unfold isLf; have := HN.out; rw [List.take_of_length_le (by omega)] at this; simp [this]
        clear hr
        go_wp2
        go_ret
        exact ⟨by rw [H.out]; rfl, rfl⟩
  · have hnd' : isNd t n = false := by simpa using hnd
    have H : Hid (sLf t n = false) := by unfold Hid sLf; rw [hnd']; rfl
    clear hr
    go_enter Try.func71, Try.ntmps71
    go_wp2_with (go_at_call 47; refine (sHas_any _ _ t HH.out _).mono ?_; rintro e w1 ⟨rfl, rfl⟩; rw [hnd'])
    go_ret
    exact ⟨by rw [H.out]; rfl, rfl⟩
set_option maxHeartbeats 400000 in
theorem sIsUnder_any (w : World) (bs : Nat) (t : List Int) (h : PTree w bs t) (hT : Tree t) (n top : Int) (hn : n < t.length) :
    Calls Try.prog 72 #[.pointer (some ⟨bs, 0, none⟩), .int .i64 n, .int .i64 top] w fun e w' => e = .returned (.bool (under t n top)) ∧ w' = w := by
  have HH : Hid (PTree w bs t) := h
  obtain ⟨c1, hr⟩ := h
  have hN := hT.le
  have HT : Hid (Tree t) := hT
  clear hT
  obtain ⟨N, hN'⟩ : ∃ N, t.length = N := ⟨_, rfl⟩
  rw [hN'] at c1 hN hn
  go_enter Try.func72, Try.ntmps72
  go_wp2
  go_loop [1] (fun i => ∃ m : Int, m < N ∧ i = .int .i64 m ∧ under t m top = under t n top) (fun i => (intOf i + 1).toNat)
  case atStart => exact ⟨n, hn, rfl, rfl⟩
  case round =>
    obtain ⟨m, hm, rfl, hu⟩ := hrel
    have HU : Hid (under t m top = under t n top) := hu
    clear hu
    by_cases h0 : m < 0
    · have H : Hid (under t n top = false) := by unfold Hid; rw [← HU.out]; exact under_neg t m top h0
      have hnd : isNd t m = false := by unfold isNd; simp; omega
      clear hr
      go_wp2_with (go_at_call 47; refine (sHas_any _ _ t HH.out _).mono ?_; rintro e w1 ⟨rfl, rfl⟩; rw [hnd])
      go_ret
      exact ⟨by rw [H.out]; rfl, rfl⟩
    · have hnd : isNd t m = true := by unfold isNd; simp; omega
      by_cases e : m = top
      · have H : Hid (under t n top = true) := by unfold Hid; rw [← HU.out, e]; exact under_self t top (by omega)
        subst e
        clear hr
        go_wp2_with (go_at_call 47; refine (sHas_any _ _ t HH.out _).mono ?_; rintro e w1 ⟨rfl, rfl⟩; rw [hnd])
        go_ret
        exact ⟨by rw [H.out]; rfl, rfl⟩
      · obtain ⟨k, rfl⟩ : ∃ k : Nat, m = k := ⟨m.toNat, by omega⟩
        have d1 := hr k (by omega)
        have hl := HT.out.lt k (by omega)
        have hg : t.getD k (-1) = t[k]'(by omega) := getD_of (by omega)
        have hs : Hid (under t (t.getD k (-1)) top = under t n top) := by unfold Hid; rw [← HU.out, under_step HT.out k top (by omega) (by omega) e]; simp
        clear hg
        obtain ⟨x, hx⟩ : ∃ x, x = t.getD k (-1) := ⟨_, rfl⟩
        rw [← hx] at d1 hl hs
        clear hx hr
        go_wp2_with (go_at_call 47; refine (sHas_any _ _ t HH.out _).mono ?_; rintro e w1 ⟨rfl, rfl⟩; rw [hnd])
        go_round
        case rel => exact ⟨x, by omega, rfl, hs.out⟩
        case measure => simp [intOf]; omega
set_option maxHeartbeats 1000000 in
theorem sLeavesUnder_any (w : World) (bs : Nat) (t : List Int) (h : PTree w bs t) (hT : Tree t) (n : Int) :
    Calls Try.prog 60 #[.pointer (some ⟨bs, 0, none⟩), .int .i64 n] w fun e w' => e = .returned (.int .i64 (lvU t n t.length)) ∧ w' = w := by
  have HH : Hid (PTree w bs t) := h
  obtain ⟨c1, hr⟩ := h
  have hN := hT.le
  have HT : Hid (Tree t) := hT
  clear hT hr
  obtain ⟨N, hN'⟩ : ∃ N, t.length = N := ⟨_, rfl⟩
  have HN' : Hid (t.length = N) := hN'
  rw [hN'] at c1 hN ⊢
  clear hN'
  go_enter Try.func60, Try.ntmps60
  go_wp2
  go_loop [5, 6] (fun c i => ∃ k : Nat, k ≤ N ∧ i = .int .i64 k ∧ c = .int .i64 (lvU t n k)) (fun _ i => N - (intOf i).toNat)
  case atStart => exact ⟨0, by omega, rfl, rfl⟩
  case round =>
    obtain ⟨k, hk, rfl, rfl⟩ := hrel
    have hle := lvU_le t n k
    by_cases hlt : k < N
    · have hs := lvU_succ t n k
      have hnd : Hid (isNd t k = true) := by unfold Hid isNd; rw [HN'.out]; simp; omega
      obtain ⟨u, hu⟩ : ∃ u, under t k n = u := ⟨_, rfl⟩
      obtain ⟨f, hf⟩ : ∃ f, isLf t k = f := ⟨_, rfl⟩
      rw [hu, hf] at hs
      obtain ⟨q, hq⟩ : ∃ q, q = lvU t n k := ⟨_, rfl⟩
      rw [← hq] at hs hle ⊢
      clear hq
      have HS : Hid _ := hs
      clear hs
      have e1 : IntKind.i64.wrap ((q : Int) + 1) = (q : Int) + 1 := IntWalk.i64_in _ ⟨by omega, by omega⟩
      cases u with
      | true =>
        cases f with
        | true =>
          go_wp2_with (first | (go_at_call 72; refine (sIsUnder_any _ _ t HH.out HT.out _ _ (by rw [HN'.out]; omega)).mono ?_; rintro e w1 ⟨rfl, rfl⟩; rw [hu]) | (go_at_call 71; refine (sIsLeaf_any _ _ t HH.out _ (by rw [HN'.out]; omega)).mono ?_; rintro e w1 ⟨rfl, rfl⟩; rw [sLf_nd hnd.out, hf]))
          go_round
          case rel => exact ⟨k + 1, by omega, by go_num, by rw [HS.out]; simp⟩
          case measure => simp [intOf]; omega
        | false =>
          go_wp2_with (first | (go_at_call 72; refine (sIsUnder_any _ _ t HH.out HT.out _ _ (by rw [HN'.out]; omega)).mono ?_; rintro e w1 ⟨rfl, rfl⟩; rw [hu]) | (go_at_call 71; refine (sIsLeaf_any _ _ t HH.out _ (by rw [HN'.out]; omega)).mono ?_; rintro e w1 ⟨rfl, rfl⟩; rw [sLf_nd hnd.out, hf]))
          go_round
          case rel => exact ⟨k + 1, by omega, by go_num, by rw [HS.out]; simp⟩
          case measure => simp [intOf]; omega
      | false =>
        go_wp2_with (first | (go_at_call 72; refine (sIsUnder_any _ _ t HH.out HT.out _ _ (by rw [HN'.out]; omega)).mono ?_; rintro e w1 ⟨rfl, rfl⟩; rw [hu]))
        go_round
        case rel => exact ⟨k + 1, by omega, by go_num, by rw [HS.out]; simp⟩
        case measure => simp [intOf]; omega
    · obtain rfl : k = N := by omega
      go_wp2
      go_ret
      exact ⟨rfl, rfl⟩
end Go.Proofs.Ytpglbakcjihohab

/-! What the walk of the law asks of the program: its store in memory, and each call of it, as hypotheses. -/
namespace Go.Proofs.Ytpglbakcjihohab
open Go.RowKit

/-- What a fair packet's items are. -/
theorem fair_in {t : List Int} (h8 : t.length ≤ 8) {n fr : Int} {l : List It} (h : fair t n fr l = true) (hok : AllOkI l) : AllIn l := fun x hx => by
  obtain ⟨i, hi⟩ := List.getElem?_of_mem hx
  have h1 := (fair_iff.1 h).2.2 i (List.getElem?_eq_some_iff.1 hi).1
  simp only [okAt, hi, Option.map_some, Option.getD_some, Bool.and_eq_true, okIt, isNd, decide_eq_true_eq] at h1
  refine ⟨hok i x hi, ?_⟩
  omega

def isSt (t : Tag) : Prop := ∃ i, t = .st i
/-- The program's store in memory: world, owners, base, its block, tree, width, what it holds (as the document tells it). -/
abbrev SRT := World → Ghost → Nat → Nat → List Int → Int → List Nd → Prop
/-- Numbers of events, lists of items: what stays within bounds. -/
def DI (D : List Nd) (M : Nat) : Prop := ∀ (k : Nat) (d : Nd), D[k]? = some d → d.lev.length ≤ M ∧ d.kev.length ≤ M ∧ Good d.items ∧ Good d.saved
def newE (t : List Int) (wid : Int) : Int := if isTr t = true then (if isWid wid = true then 0 else 8) else 1
def sndE (t : List Int) (n low high : Int) : Int := if isNd t n = true then (if n = 0 then 4 else if isRg low high = true then 0 else 8) else 2
def sndL (t : List Int) (D : List Nd) (n low high : Int) : List It := if sndE t n low high = 0 then ((D[n.toNat]?).map fun d => (std t d n.toNat).filter (inRg low high)).getD [] else []
def sndF (t : List Int) (n low high : Int) : Int := if sndE t n low high = 0 then n else 0
def delE (t : List Int) (n fr : Int) (l : List It) : Int := if isNd t n = true then (if fair t n fr l = true then 0 else 9) else 2
def delD (t : List Int) (D : List Nd) (n fr : Int) (l : List It) : List Nd := if delE t n fr l = 0 then (match D[n.toNat]? with | some d => D.set n.toNat { d with items := l.foldl jnd d.items } | none => D) else D
/-- The contracts of the reading calls, and of New. -/
structure PR (SR : SRT) : Prop where
  chg : ∀ {w w' : World} {own own' : Ghost} {B0 bs : Nat} {t : List Int} {wid : Int} {D : List Nd} {S : Tag → Prop}, SR w own B0 bs t wid D → Fr own S w w' → Same w own own' → (∀ i, ¬ S (.st i)) → SR w' own' B0 bs t wid D
  new : ∀ (t : List Int) (p : Option Addr) (n c : Nat) (wid : Int) (w : World), t.length = n → RowsAt clInt w p t → n ≤ 1000000000 → fitsI wid →
    Calls Try.prog 23 #[.slice p n c, .int .i64 wid] w fun e w' => Below w.heap.size w w' ∧
      ((newE t wid = 0 ∧ ∃ bs, e = .returned (.tuple #[.pointer (some ⟨bs, 0, none⟩), .int .i64 0]) ∧ ∀ (own : Ghost) (B0 : Nat), B0 ≤ w.heap.size → ∃ own', SR w' own' B0 bs t wid (List.replicate t.length Nd.zero) ∧ Same w own own') ∨
       (newE t wid ≠ 0 ∧ e = .returned (.tuple #[.pointer none, .int .i64 (newE t wid)])))
  items : ∀ (w : World) (own : Ghost) (B0 bs : Nat) (t : List Int) (wid : Int) (D : List Nd), SR w own B0 bs t wid D → DI D 100000000 → ∀ n : Int, fitsI n →
    Calls Try.prog 11 #[.pointer (some ⟨bs, 0, none⟩), .int .i64 n] w fun e w' => ∃ v, e = .returned v ∧ Own clIt w' w.heap.size 80 v (lvAt t D n) ∧ Below w.heap.size w w'
  mark : ∀ (w : World) (own : Ghost) (B0 bs : Nat) (t : List Int) (wid : Int) (D : List Nd), SR w own B0 bs t wid D → DI D 100000000 → ∀ n : Int, fitsI n →
    Calls Try.prog 31 #[.pointer (some ⟨bs, 0, none⟩), .int .i64 n] w fun e w' => e = .returned (.int .i64 (wmAt t D n)) ∧ Below w.heap.size w w'
  ask : ∀ (w : World) (own : Ghost) (B0 bs : Nat) (t : List Int) (wid : Int) (D : List Nd), SR w own B0 bs t wid D → DI D 100000000 → ∀ n low high : Int, fitsI n → fitsI low → fitsI high →
    Calls Try.prog 32 #[.pointer (some ⟨bs, 0, none⟩), .int .i64 n, .int .i64 low, .int .i64 high] w fun e w' => ∃ A, e = .returned (.tuple #[.agg A, .int .i64 (askErr t n low high)]) ∧ IsAn A (askAn t (lvAt t D n) n low high) ∧ Below w.heap.size w w'
/-- What a call that changes the store does. -/
def Chg (SR : SRT) (w : World) (own : Ghost) (B0 bs : Nat) (t : List Int) (wid : Int) (D' : List Nd) (w' : World) : Prop := ∃ own', SR w' own' B0 bs t wid D' ∧ Same w own own' ∧ Fr own isSt w w'
structure PL (SR : SRT) : Prop where
  ingest : ∀ (w : World) (own : Ghost) (B0 bs : Nat) (t : List Int) (wid : Int) (D : List Nd), SR w own B0 bs t wid D → DI D 100000000 → B0 ≤ w.heap.size → ∀ (n at' : Int) (key : ByteArray) (v : Int), fitsI n → fitsI at' → key.size ≤ maxLen → -2147483648 ≤ v → v ≤ 2147483647 →
    Calls Try.prog 42 #[.pointer (some ⟨bs, 0, none⟩), .int .i64 n, .int .i64 at', .string key, .int .i32 v] w fun e w' => e = .returned (.int .i64 (ingE t wid D n at' key)) ∧ Chg SR w own B0 bs t wid (ingD t wid D n at' key v) w'
  advance : ∀ (w : World) (own : Ghost) (B0 bs : Nat) (t : List Int) (wid : Int) (D : List Nd), SR w own B0 bs t wid D → DI D 100000000 → B0 ≤ w.heap.size → ∀ (n tm : Int), fitsI n → fitsI tm →
    Calls Try.prog 43 #[.pointer (some ⟨bs, 0, none⟩), .int .i64 n, .int .i64 tm] w fun e w' => e = .returned (.int .i64 (advE t wid D n tm)) ∧ Chg SR w own B0 bs t wid (advD t wid D n tm) w'
structure PS (SR : SRT) : Prop where
  sync : ∀ (w : World) (own : Ghost) (B0 bs : Nat) (t : List Int) (wid : Int) (D : List Nd), SR w own B0 bs t wid D → DI D 100000000 → B0 ≤ w.heap.size → ∀ (n : Int), fitsI n →
    Calls Try.prog 30 #[.pointer (some ⟨bs, 0, none⟩), .int .i64 n] w fun e w' => e = .returned (.int .i64 (ndE t n)) ∧ Chg SR w own B0 bs t wid (synD t D n) w'
  crash : ∀ (w : World) (own : Ghost) (B0 bs : Nat) (t : List Int) (wid : Int) (D : List Nd), SR w own B0 bs t wid D → DI D 100000000 → B0 ≤ w.heap.size → ∀ (n : Int), fitsI n →
    Calls Try.prog 41 #[.pointer (some ⟨bs, 0, none⟩), .int .i64 n] w fun e w' => e = .returned (.int .i64 (ndE t n)) ∧ Chg SR w own B0 bs t wid (craD t D n) w'
structure PD (SR : SRT) : Prop where
  send : ∀ (w : World) (own : Ghost) (B0 bs : Nat) (t : List Int) (wid : Int) (D : List Nd), SR w own B0 bs t wid D → DI D 100000000 → ∀ (n low high : Int), fitsI n → fitsI low → fitsI high →
    Calls Try.prog 16 #[.pointer (some ⟨bs, 0, none⟩), .int .i64 n, .int .i64 low, .int .i64 high] w fun e w' => ∃ v, e = .returned (.tuple #[.agg #[.int .i64 (sndF t n low high), v], .int .i64 (sndE t n low high)]) ∧ Own clIt w' w.heap.size 80 v (sndL t D n low high) ∧ Below w.heap.size w w'
structure PJ (SR : SRT) : Prop where
  deliver : ∀ (w : World) (own : Ghost) (B0 bs : Nat) (t : List Int) (wid : Int) (D : List Nd), SR w own B0 bs t wid D → DI D 100000000 → B0 ≤ w.heap.size → ∀ (n fr : Int) (l : List It) (p : Option Addr) (m c : Nat), fitsI n → fitsI fr → l.length = m → RowsAt clIt w p l → AllOkI l → m ≤ 1000000000 → (∀ b off, p = some ⟨b, off, none⟩ → own b = .arg) →
    Calls Try.prog 9 #[.pointer (some ⟨bs, 0, none⟩), .int .i64 n, .agg #[.int .i64 fr, .slice p m c]] w fun e w' => e = .returned (.int .i64 (delE t n fr l)) ∧ Chg SR w own B0 bs t wid (delD t D n fr l) w'
end Go.Proofs.Ytpglbakcjihohab

/-! The program's store in memory: its blocks, whose they are, what stands in them; one ledger of it changed; its small questions. -/
namespace Go.Proofs.Ytpglbakcjihohab
open Go.RowKit
set_option maxRecDepth 100000

/-- The ledgers' items and watermarks: the living ones of nodes 0 to 7, then the stored ones. -/
def LQ (t : List Int) (D : List Nd) (q : Nat) : List It := if q < 8 then ((D[q]?).map fun d => lvg t d q).getD [] else ((D[q - 8]?).map fun d => std t d (q - 8)).getD []
def MQ (D : List Nd) (q : Nat) : Int := if q < 8 then ((D[q]?).map fun d => d.lmk).getD 0 else ((D[q - 8]?).map fun d => d.kmk).getD 0
structure IsSt (A : Array Value) (t : List Int) (wid : Int) (V : Nat → Sl) (D : List Nd) : Prop where
  size : A.size = 42
  len : A[0]? = some (.int .i64 t.length)
  up : ∀ k, k < t.length → A[1 + k]? = some (.int .i64 (t.getD k (-1)))
  wid : A[9]? = some (.int .i64 wid)
  sl : ∀ q, q < 16 → A[10 + q * 2]? = some (.slice (V q).p (V q).n (V q).c)
  mrk : ∀ q, q < 16 → A[10 + q * 2 + 1]? = some (.int .i64 (MQ D q))
def updV (V : Nat → Sl) (q : Nat) (s : Sl) : Nat → Sl := fun r => if r = q then s else V r
theorem IsSt.setSl {A : Array Value} {t : List Int} {wid : Int} {V : Nat → Sl} {D D' : List Nd} (h : IsSt A t wid V D) (h8 : t.length ≤ 8) (q : Nat) (hq : q < 16) (s : Sl) (hm : ∀ r, r < 16 → MQ D' r = MQ D r) : IsSt (A.setIfInBounds (10 + q * 2) s.val) t wid (updV V q s) D' where
  size := by simpa using h.size
  len := by rw [Array.getElem?_setIfInBounds, if_neg (by omega)]; exact h.len
  up := fun k hk => by rw [Array.getElem?_setIfInBounds, if_neg (by omega)]; exact h.up k hk
  wid := by rw [Array.getElem?_setIfInBounds, if_neg (by omega)]; exact h.wid
  sl := fun r hr => by
    rw [Array.getElem?_setIfInBounds]
    by_cases e : q = r
    · subst e; rw [if_pos rfl, if_pos (by rw [h.size]; omega)]; simp [updV, Sl.val]
    · rw [if_neg (by omega)]; simp only [updV, if_neg (fun e' : r = q => e e'.symm)]; exact h.sl r hr
  mrk := fun r hr => by rw [Array.getElem?_setIfInBounds, if_neg (by omega), hm r hr]; exact h.mrk r hr
theorem IsSt.setMk {A : Array Value} {t : List Int} {wid : Int} {V : Nat → Sl} {D D' : List Nd} (h : IsSt A t wid V D) (h8 : t.length ≤ 8) (q : Nat) (hq : q < 16) (mk : Int) (hk : MQ D' q = mk) (hm : ∀ r, r < 16 → r ≠ q → MQ D' r = MQ D r) : IsSt (A.setIfInBounds (10 + q * 2 + 1) (.int .i64 mk)) t wid V D' where
  size := by simpa using h.size
  len := by rw [Array.getElem?_setIfInBounds, if_neg (by omega)]; exact h.len
  up := fun k hk => by rw [Array.getElem?_setIfInBounds, if_neg (by omega)]; exact h.up k hk
  wid := by rw [Array.getElem?_setIfInBounds, if_neg (by omega)]; exact h.wid
  sl := fun r hr => by rw [Array.getElem?_setIfInBounds, if_neg (by omega)]; exact h.sl r hr
  mrk := fun r hr => by
    rw [Array.getElem?_setIfInBounds]
    by_cases e : q = r
    · subst e; rw [if_pos rfl, if_pos (by rw [h.size]; omega), hk]
    · rw [if_neg (by omega), hm r hr (fun e' => e e'.symm)]; exact h.mrk r hr
structure SRep (w : World) (own : Ghost) (B0 bs : Nat) (t : List Int) (wid : Int) (D : List Nd) (V : Nat → Sl) (A : Array Value) : Prop where
  T : Tree t
  wid0 : 1 ≤ wid
  wid1 : wid ≤ 1000
  main : w.heap[bs]? = some (.cells A 77)
  is : IsSt A t wid V D
  tm : own bs = .st 0
  b0 : B0 ≤ bs
  ow : ∀ q, q < 16 → Own clIt w B0 80 (V q).val (LQ t D q)
  tg : ∀ q, q < 16 → TgV own (V q).val (.st (1 + q))
  ld : D.length = t.length
  ev : ∀ (k : Nat) (d : Nd), D[k]? = some d → EvOk d.lev ∧ EvOk d.kev ∧ Good d.items ∧ Good d.saved ∧ 0 ≤ d.lmk ∧ d.lmk ≤ 20000 ∧ 0 ≤ d.kmk ∧ d.kmk ≤ 20000
def SR : SRT := fun w own B0 bs t wid D => ∃ V A, SRep w own B0 bs t wid D V A
theorem SRep.chg {w w' : World} {own own' : Ghost} {B0 bs : Nat} {t : List Int} {wid : Int} {D : List Nd} {V : Nat → Sl} {A : Array Value} (h : SRep w own B0 bs t wid D V A) {S : Tag → Prop} (f : Fr own S w w') (s : Same w own own') (hS : ∀ i, ¬ S (.st i)) : SRep w' own' B0 bs t wid D V A where
  T := h.T
  wid0 := h.wid0
  wid1 := h.wid1
  main := by rw [f.block bs (lt_of_blk h.main) (by rw [h.tm]; simp) (by rw [h.tm]; exact hS 0)]; exact h.main
  is := h.is
  tm := by rw [s bs (lt_of_blk h.main) (by rw [h.tm]; simp)]; exact h.tm
  b0 := h.b0
  ow := fun q hq => (h.ow q hq).fr f (h.tg q hq) (by simp) (hS _)
  tg := fun q hq => (h.tg q hq).own s (h.ow q hq) (by simp)
  ld := h.ld
  ev := h.ev
theorem SRep.below {w w' : World} {own : Ghost} {B0 bs : Nat} {t : List Int} {wid : Int} {D : List Nd} {V : Nat → Sl} {A : Array Value} (h : SRep w own B0 bs t wid D V A) (hb : Below w.heap.size w w') : SRep w' own B0 bs t wid D V A :=
  h.chg (S := fun _ => False) (Fr.of_below hb) (Same.refl _ _) fun _ h => h
theorem SR_chg {w w' : World} {own own' : Ghost} {B0 bs : Nat} {t : List Int} {wid : Int} {D : List Nd} {S : Tag → Prop} (h : SR w own B0 bs t wid D) (f : Fr own S w w') (s : Same w own own') (hS : ∀ i, ¬ S (.st i)) : SR w' own' B0 bs t wid D := by
  obtain ⟨V, A, h⟩ := h
  exact ⟨V, A, h.chg f s hS⟩
theorem SRep.tree {w : World} {own : Ghost} {B0 bs : Nat} {t : List Int} {wid : Int} {D : List Nd} {V : Nat → Sl} {A : Array Value} (h : SRep w own B0 bs t wid D V A) : PTree w bs t :=
  ⟨by rw [cell_of_row _ _ _ _ _ _ h.main]; exact h.is.len, fun k hk => by rw [cell_of_row _ _ _ _ _ _ h.main]; exact h.is.up k hk⟩
theorem SRep.width {w : World} {own : Ghost} {B0 bs : Nat} {t : List Int} {wid : Int} {D : List Nd} {V : Nat → Sl} {A : Array Value} (h : SRep w own B0 bs t wid D V A) : w.cell? ⟨bs, 9, none⟩ = some (.int .i64 wid) := by
  rw [cell_of_row _ _ _ _ _ _ h.main]; exact h.is.wid
theorem lvg_good {t : List Int} {n : Nat} {d : Nd} (h : EvOk d.lev) (hi : Good d.items) (hn : n < 8) (hl : d.lev.length ≤ 1000000000) : Good (lvg t d n) := by
  unfold lvg
  split
  · exact known_good n d.lev d.lcl (by omega) (by omega) h hl
  · exact hi
theorem std_good {t : List Int} {n : Nat} {d : Nd} (h : EvOk d.kev) (hi : Good d.saved) (hn : n < 8) (hl : d.kev.length ≤ 1000000000) : Good (std t d n) := by
  unfold std
  split
  · exact known_good n d.kev d.kcl (by omega) (by omega) h hl
  · exact hi
theorem SRep.good {w : World} {own : Ghost} {B0 bs : Nat} {t : List Int} {wid : Int} {D : List Nd} {V : Nat → Sl} {A : Array Value} (h : SRep w own B0 bs t wid D V A) (hd : DI D 100000000) (q : Nat) : Good (LQ t D q) := by
  have h8 := h.T.le
  have hl := h.ld
  unfold LQ
  split
  · cases hx : D[q]? with
    | none => exact Good.nil
    | some d => exact lvg_good (h.ev q d hx).1 (hd q d hx).2.2.1 (by have := (List.getElem?_eq_some_iff.1 hx).1; omega) (by have := (hd q d hx).1; omega)
  · cases hx : D[q - 8]? with
    | none => exact Good.nil
    | some d => exact std_good (h.ev _ d hx).2.1 (hd _ d hx).2.2.2 (by have := (List.getElem?_eq_some_iff.1 hx).1; omega) (by have := (hd _ d hx).2.1; omega)
theorem SRep.lgr {w : World} {own : Ghost} {B0 bs : Nat} {t : List Int} {wid : Int} {D : List Nd} {V : Nat → Sl} {A : Array Value} (h : SRep w own B0 bs t wid D V A) (hd : DI D 100000000) (q : Nat) (hq : q < 16) : LgR w bs (10 + q * 2) (V q).p (V q).n (V q).c (MQ D q) (LQ t D q) where
  c0 := by rw [cell_of_row _ _ _ _ _ _ h.main]; exact h.is.sl q hq
  c1 := by rw [cell_of_row _ _ _ _ _ _ h.main]; exact h.is.mrk q hq
  rows := (h.ow q hq).sl.2
  len := (h.ow q hq).sl.1
  small := by have h1 := (h.ow q hq).sl.1; have h2 := (h.good hd q).len; omega
theorem filt_all {l : List It} (h : InB l) : l.filter (inRg 0 19) = l := List.filter_eq_self.2 fun x hx => by have := h x hx; simp [inRg]; omega
/-- One ledger changed, its list in its old block or in a new one. -/
theorem SRep.gen {w w' : World} {own : Ghost} {B0 bs : Nat} {t : List Int} {wid : Int} {D D' : List Nd} {V : Nat → Sl} {A A' : Array Value} (h : SRep w own B0 bs t wid D V A) (q : Nat) (hq : q < 16) (s : Sl)
    (hos : w'.os = w.os) (htp : w'.tape = w.tape) (hou : w'.output = w.output) (hsz : w.heap.size ≤ w'.heap.size)
    (hfr : ∀ k, k < w.heap.size → k ≠ bs → some k ≠ (V q).val.ownBlock → w'.heap[k]? = w.heap[k]?)
    (hm : w'.heap[bs]? = some (.cells A' 77)) (his : IsSt A' t wid (updV V q s) D') (hown : Own clIt w' B0 80 s.val (LQ t D' q)) (hat : ∀ g, s.val.ownBlock = some g → (V q).val.ownBlock = some g ∨ w.heap.size ≤ g)
    (hL : ∀ r, r < 16 → r ≠ q → LQ t D' r = LQ t D r) (hld : D'.length = t.length) (hev : ∀ (k : Nat) (d : Nd), D'[k]? = some d → EvOk d.lev ∧ EvOk d.kev ∧ Good d.items ∧ Good d.saved ∧ 0 ≤ d.lmk ∧ d.lmk ≤ 20000 ∧ 0 ≤ d.kmk ∧ d.kmk ≤ 20000) :
    Chg SR w own B0 bs t wid D' w' := by
  have hbs := lt_of_blk h.main
  let own' : Ghost := fun j => if s.val.ownBlock = some j then .st (1 + q) else own j
  have same : Same w own own' := fun j hj hf => by
    by_cases e : s.val.ownBlock = some j
    · simp only [own', if_pos e]
      rcases hat j e with a | a
      · exact (h.tg q hq j a).symm
      · omega
    · simp only [own', if_neg e]
  have fr : Fr own isSt w w' := ⟨hos, htp, hou, hsz, fun k hk hf hn => hfr k hk (fun e => hn (by rw [e, h.tm]; exact ⟨0, rfl⟩)) (fun e => hn (by rw [h.tg q hq k e.symm]; exact ⟨_, rfl⟩))⟩
  have far : ∀ r, r < 16 → r ≠ q → Own clIt w' B0 80 (V r).val (LQ t D r) := fun r hr hne => (h.ow r hr).chg fun k hk => hfr k ((h.ow r hr).lt k hk).2 (fun e => by have := h.tg r hr k hk; rw [e, h.tm] at this; simp at this; omega) (fun e => by
    have h1 := h.tg r hr k hk
    have h2 := h.tg q hq k e.symm
    rw [h1] at h2; simp at h2; omega)
  refine ⟨own', ⟨updV V q s, A', ?_⟩, same, fr⟩
  refine ⟨h.T, h.wid0, h.wid1, hm, his, ?_, h.b0, fun r hr => ?_, fun r hr => ?_, hld, hev⟩
  · rw [same bs hbs (by rw [h.tm]; simp)]; exact h.tm
  · by_cases e : r = q
    · subst e; simp only [updV, if_pos]; exact hown
    · simp only [updV, if_neg e]; rw [hL r hr e]; exact far r hr e
  · by_cases e : r = q
    · subst e; simp only [updV, if_pos]; exact fun k hk => if_pos hk
    · simp only [updV, if_neg e]; exact (h.tg r hr).own same (h.ow r hr) (by simp)
/-- 'put' and its kin, put together. -/
theorem SRep.put {w w' : World} {own : Ghost} {B0 bs : Nat} {t : List Int} {wid : Int} {D D' : List Nd} {V : Nat → Sl} {A : Array Value} (h : SRep w own B0 bs t wid D V A) (q : Nat) (hq : q < 16) (s : Sl) (pf : PF w w' bs (10 + q * 2) A 77 (V q).val s.val) (hown : Own clIt w' B0 80 s.val (LQ t D' q))
    (hM : ∀ r, r < 16 → MQ D' r = MQ D r) (hL : ∀ r, r < 16 → r ≠ q → LQ t D' r = LQ t D r) (hld : D'.length = t.length) (hev : ∀ (k : Nat) (d : Nd), D'[k]? = some d → EvOk d.lev ∧ EvOk d.kev ∧ Good d.items ∧ Good d.saved ∧ 0 ≤ d.lmk ∧ d.lmk ≤ 20000 ∧ 0 ≤ d.kmk ∧ d.kmk ≤ 20000) :
    Chg SR w own B0 bs t wid D' w' :=
  h.gen q hq s pf.os pf.tape pf.output pf.size pf.blk pf.main (h.is.setSl h.T.le q hq s hM) hown (fun g e => by rcases pf.at' with a | ⟨g', a, ha⟩; (rw [← a]; exact .inl e); rw [a] at e; cases e; exact .inr ha) hL hld hev
theorem SRep.ne {w : World} {own : Ghost} {B0 bs : Nat} {t : List Int} {wid : Int} {D : List Nd} {V : Nat → Sl} {A : Array Value} (h : SRep w own B0 bs t wid D V A) (q : Nat) (hq : q < 16) : (V q).val.ownBlock ≠ some bs := fun e => by
  have := h.tg q hq bs e; rw [h.tm] at this; simp at this; omega
theorem LQ_live (t : List Int) (D : List Nd) (k : Nat) (d : Nd) (hk : k < 8) (hd : D[k]? = some d) : LQ t D k = lvg t d k := by unfold LQ; rw [if_pos hk, hd]; rfl
theorem LQ_kept (t : List Int) (D : List Nd) (k : Nat) (d : Nd) (hd : D[k]? = some d) : LQ t D (8 + k) = std t d k := by unfold LQ; rw [if_neg (by omega), show 8 + k - 8 = k by omega, hd]; rfl
theorem MQ_live (D : List Nd) (k : Nat) (d : Nd) (hk : k < 8) (hd : D[k]? = some d) : MQ D k = d.lmk := by unfold MQ; rw [if_pos hk, hd]; rfl
theorem MQ_kept (D : List Nd) (k : Nat) (d : Nd) (hd : D[k]? = some d) : MQ D (8 + k) = d.kmk := by unfold MQ; rw [if_neg (by omega), show 8 + k - 8 = k by omega, hd]; rfl
theorem LQ_set (t : List Int) (D : List Nd) (k : Nat) (d' : Nd) (r : Nat) (h1 : r ≠ k) (h2 : r ≠ 8 + k) : LQ t (D.set k d') r = LQ t D r := by
  unfold LQ
  split
  · rw [List.getElem?_set_ne (by omega)]
  · rw [List.getElem?_set_ne (by omega)]
theorem MQ_set (D : List Nd) (k : Nat) (d' : Nd) (r : Nat) (h1 : r ≠ k) (h2 : r ≠ 8 + k) : MQ (D.set k d') r = MQ D r := by
  unfold MQ
  split
  · rw [List.getElem?_set_ne (by omega)]
  · rw [List.getElem?_set_ne (by omega)]
theorem SRep.at {w : World} {own : Ghost} {B0 bs : Nat} {t : List Int} {wid : Int} {D : List Nd} {V : Nat → Sl} {A : Array Value} (h : SRep w own B0 bs t wid D V A) (n : Int) (hn : isNd t n = true) : ∃ (k : Nat) (d : Nd), n = k ∧ k < t.length ∧ k < 8 ∧ D[k]? = some d := by
  simp only [isNd, decide_eq_true_eq] at hn
  have h8 := h.T.le
  have h2 := h.ld
  obtain ⟨k, rfl⟩ : ∃ k : Nat, n = k := ⟨n.toNat, by omega⟩
  exact ⟨k, D[k]'(by omega), rfl, by omega, by omega, List.getElem?_eq_getElem _⟩

/-! ### Small questions -/
set_option maxHeartbeats 400000 in
theorem has_any (w : World) (bs : Nat) (t : List Int) (h : PTree w bs t) (n : Int) :
    Calls Try.prog 26 #[.pointer (some ⟨bs, 0, none⟩), .int .i64 n] w fun e w' => e = .returned (.bool (isNd t n)) ∧ w' = w := by
  have H : Hid (PTree w bs t) := h
  clear h
  go_enter Try.func26, Try.ntmps26
  go_wp2_with (go_at_call 47; refine (sHas_any _ _ t H.out _).mono ?_; rintro e w1 ⟨rfl, rfl⟩)
  go_ret
  exact ⟨rfl, rfl⟩
set_option maxHeartbeats 400000 in
theorem leafError_any (w : World) (bs : Nat) (t : List Int) (h : PTree w bs t) (n : Int) (hN : t.length ≤ 8) :
    Calls Try.prog 56 #[.pointer (some ⟨bs, 0, none⟩), .int .i64 n] w fun e w' => e = .returned (.int .i64 (wrg t n)) ∧ w' = w := by
  have H : Hid (PTree w bs t) := h
  clear h
  by_cases h1 : isNd t n = true
  · by_cases h2 : isLf t n = true
    · have HE : Hid (wrg t n = 0) := by unfold Hid wrg; rw [if_pos h1, if_pos h2]
      have HS : Hid (sLf t n = true) := by unfold Hid; rw [sLf_nd h1]; exact h2
      go_enter Try.func56, Try.ntmps56
      go_wp2_with (first | (go_at_call 26; refine (has_any _ _ t H.out _).mono ?_; rintro e w1 ⟨rfl, rfl⟩; rw [h1]) | (go_at_call 71; refine (sIsLeaf_any _ _ t H.out _ hN).mono ?_; rintro e w1 ⟨rfl, rfl⟩; rw [HS.out]))
      go_ret
      exact ⟨by rw [HE.out]; rfl, rfl⟩
    · have HE : Hid (wrg t n = 3) := by unfold Hid wrg; rw [if_pos h1, if_neg h2]
      have HS : Hid (sLf t n = false) := by unfold Hid; rw [sLf_nd h1]; simpa using h2
      go_enter Try.func56, Try.ntmps56
      go_wp2_with (first | (go_at_call 26; refine (has_any _ _ t H.out _).mono ?_; rintro e w1 ⟨rfl, rfl⟩; rw [h1]) | (go_at_call 71; refine (sIsLeaf_any _ _ t H.out _ hN).mono ?_; rintro e w1 ⟨rfl, rfl⟩; rw [HS.out]))
      go_ret
      exact ⟨by rw [HE.out]; rfl, rfl⟩
  · have HE : Hid (wrg t n = 2) := by unfold Hid wrg; rw [if_neg h1]
    have h1' : isNd t n = false := by simpa using h1
    go_enter Try.func56, Try.ntmps56
    go_wp2_with (go_at_call 26; refine (has_any _ _ t H.out _).mono ?_; rintro e w1 ⟨rfl, rfl⟩; rw [h1'])
    go_ret
    exact ⟨by rw [HE.out]; rfl, rfl⟩
set_option maxHeartbeats 400000 in
theorem windowEnd_any (w : World) (bs : Nat) (wid : Int) (c9 : w.cell? ⟨bs, 9, none⟩ = some (.int .i64 wid)) (w0 : 1 ≤ wid) (w1 : wid ≤ 1000) (k : Nat) (hk : k < 20) :
    Calls Try.prog 67 #[.pointer (some ⟨bs, 0, none⟩), .int .i64 k] w fun e w' => e = .returned (.int .i64 (((k : Int) + 1) * wid)) ∧ w' = w := by
  have e1 : IntKind.i64.wrap ((k : Int) + 1) = (k : Int) + 1 := IntWalk.i64_in _ ⟨by omega, by omega⟩
  have hb : 0 ≤ ((k : Int) + 1) * wid ∧ ((k : Int) + 1) * wid ≤ 20000 := by
    have h1 : ((k : Int) + 1) * wid ≤ 20 * wid := Int.mul_le_mul_of_nonneg_right (by omega) (by omega)
    have h2 : 0 ≤ ((k : Int) + 1) * wid := Int.mul_nonneg (by omega) (by omega)
    omega
  have e2 : IntKind.i64.wrap (((k : Int) + 1) * wid) = ((k : Int) + 1) * wid := IntWalk.i64_in _ ⟨by omega, by omega⟩
  go_enter Try.func67, Try.ntmps67
  go_wp2
  go_ret
  exact ⟨rfl, rfl⟩
/-- The window that a time is in. -/
def wof (wid tm : Int) : Int := if tm < 0 ∨ 20 * wid ≤ tm then -1 else tm / wid
theorem wof_at {wid tm : Int} (w0 : 1 ≤ wid) (k : Nat) (hk : k < 20) (h0 : (k : Int) * wid ≤ tm) (h1 : tm < ((k : Int) + 1) * wid) : wof wid tm = k := by
  have a1 : ((k : Int) + 1) * wid ≤ 20 * wid := Int.mul_le_mul_of_nonneg_right (by omega) (by omega)
  have a2 : 0 ≤ (k : Int) * wid := Int.mul_nonneg (by omega) (by omega)
  unfold wof
  rw [if_neg (by omega)]
  have b1 : (k : Int) ≤ tm / wid := Int.le_ediv_of_mul_le (by omega) h0
  have b2 : tm / wid < (k : Int) + 1 := Int.ediv_lt_of_lt_mul (by omega) h1
  omega
set_option maxHeartbeats 1000000 in
theorem windowOf_any (w : World) (bs : Nat) (wid : Int) (c9 : w.cell? ⟨bs, 9, none⟩ = some (.int .i64 wid)) (w0 : 1 ≤ wid) (w1 : wid ≤ 1000) (tm : Int) :
    Calls Try.prog 64 #[.pointer (some ⟨bs, 0, none⟩), .int .i64 tm] w fun e w' => e = .returned (.int .i64 (wof wid tm)) ∧ w' = w := by
  have HC : Hid (w.cell? ⟨bs, 9, none⟩ = some (.int .i64 wid)) := c9
  clear c9
  by_cases a0 : tm < 0
  · have HE : Hid (wof wid tm = -1) := by unfold Hid wof; rw [if_pos (.inl a0)]
    go_enter Try.func64, Try.ntmps64
    go_wp2
    go_ret
    exact ⟨by rw [HE.out]; rfl, rfl⟩
  · go_enter Try.func64, Try.ntmps64
    go_wp2
    go_loop [5] (fun i => ∃ k : Nat, k ≤ 20 ∧ i = .int .i64 k ∧ (k : Int) * wid ≤ tm) (fun i => 20 - (intOf i).toNat)
    case atStart => exact ⟨0, by omega, rfl, by simp; omega⟩
    case round =>
      obtain ⟨k, hk, rfl, hle⟩ := hrel
      by_cases hlt : k < 20
      · obtain ⟨en, hen⟩ : ∃ en, en = ((k : Int) + 1) * wid := ⟨_, rfl⟩
        by_cases hin : tm < en
        · have HE : Hid (wof wid tm = k) := wof_at w0 k hlt hle (by rw [← hen]; exact hin)
          have HEN : Hid (((k : Int) + 1) * wid = en) := hen.symm
          clear hle hen
          go_wp2_with (go_at_call 67; refine (windowEnd_any _ _ wid HC.out w0 w1 k hlt).mono ?_; rintro e w1 ⟨rfl, rfl⟩; rw [HEN.out])
          go_ret
          exact ⟨by rw [HE.out]; rfl, rfl⟩
        · have HEN : Hid (((k : Int) + 1) * wid = en) := hen.symm
          clear hle hen
          go_wp2_with (go_at_call 67; refine (windowEnd_any _ _ wid HC.out w0 w1 k hlt).mono ?_; rintro e w1 ⟨rfl, rfl⟩; rw [HEN.out])
          go_round
          case rel => exact ⟨k + 1, by omega, by go_num, by have := HEN.out; push_cast; omega⟩
          case measure => simp [intOf]; omega
      · obtain rfl : k = 20 := by omega
        have HE : Hid (wof wid tm = -1) := by unfold Hid wof; rw [if_pos (.inr (by omega))]
        clear hle
        go_wp2
        go_ret
        exact ⟨by rw [HE.out]; rfl, rfl⟩
set_option maxHeartbeats 400000 in
theorem areWindows_any (w : World) (low high : Int) :
    Calls Try.prog 40 #[.int .i64 low, .int .i64 high] w fun e w' => e = .returned (.bool (isRg low high)) ∧ w' = w := by
  by_cases h0 : 0 ≤ low
  · by_cases h2 : low ≤ high
    · by_cases h1 : high < 20
      · have H : Hid (isRg low high = true) := by unfold Hid isRg; simp [h0, h1, h2]
        go_enter Try.func40, Try.ntmps40
        go_wp2
        go_ret
        exact ⟨by rw [H.out]; rfl, rfl⟩
      · have H : Hid (isRg low high = false) := by unfold Hid isRg; simp [h1]
        go_enter Try.func40, Try.ntmps40
        go_wp2
        go_ret
        exact ⟨by rw [H.out]; rfl, rfl⟩
    · have H : Hid (isRg low high = false) := by unfold Hid isRg; simp [h2]
      go_enter Try.func40, Try.ntmps40
      go_wp2
      go_ret
      exact ⟨by rw [H.out]; rfl, rfl⟩
  · have H : Hid (isRg low high = false) := by unfold Hid isRg; simp [h0]
    go_enter Try.func40, Try.ntmps40
    go_wp2
    go_ret
    exact ⟨by rw [H.out]; rfl, rfl⟩
end Go.Proofs.Ytpglbakcjihohab

/-! Packets and lists of packets in memory; whole things in regions whose order is open. -/
namespace Go.Proofs.Ytpglbakcjihohab
open Go.RowKit
set_option maxRecDepth 100000

structure Pk where
  fr : Int
  s : Sl
def Pk.arr (x : Pk) : Array Value := #[.int .i64 x.fr, .slice x.s.p x.s.n x.s.c]
abbrev clPk : Cl Pk := ⟨fun x => [.int .i64 x.fr, .slice x.s.p x.s.n x.s.c], 2, by decide, fun _ => rfl, fun _ v hv => by
  simp only [List.mem_cons, List.not_mem_nil, or_false] at hv
  rcases hv with rfl | rfl <;> rfl⟩
theorem Pk.clsize : clPk.size = 2 := rfl
theorem slPk : SlT Try.prog clPk 27 34 32 := ⟨Try.underlying27, by kernel_rfl⟩
theorem info_pk : (Try.prog.info? 34).map (·.size) = some 2 := by kernel_rfl
theorem zero_pk : (Try.prog.info? 34).bind (·.zero) = some (.agg #[.int .i64 0, .slice none 0 0]) := by kernel_rfl
section
variable {ops : Array Oper} {rest : List Oper} {i : Nat} {o : Oper} {a : Act} {w : World} {Q : Exit → Act → World → Prop} {K : Act → World → Prop} {S : World → Prop}
theorem load_pk (hgd : o.guard = none) (x : Operand) (ho : o.op = .load 34 x) (g : Nat) (hx : a.eval x = .pointer (some ⟨g, 0, none⟩)) (u v : Value)
    (hg : w.heap[g]? = some (.cells #[u, v] 34)) (h : wpList Try.prog ops Q rest (a.put o.dst (.agg #[u, v])) w) : wpList Try.prog ops Q (o :: rest) a w :=
  wpList_load_row hgd _ x ho g hx _ _ (0, 0) _ hg Try.underlying34 rfl info_pk h
theorem yieldsIf_load_pk (hw : Region.wanted o (yielded ops a.tmps) = true) (x : Operand) (ho : o.op = .load 34 x) (g : Nat) (hx : a.eval x = .pointer (some ⟨g, 0, none⟩)) (u v : Value)
    (hS : ∀ w, S w → w.heap[g]? = some (.cells #[u, v] 34)) : YieldsIf Try.prog ops S o (.agg #[u, v]) a :=
  .inl ⟨hw, fun w hw' => by
    unfold execOp
    simp only [ho, hx, Instr.loadAt, Instr.sureAddr, Sem.run_bind, Sem.run_pure, Result.andThen_ok, run_loadVar_row w g _ _ _ (0, 0) _ (hS w hw') Try.underlying34 rfl info_pk]⟩
theorem wp_load_pk_mid (x : Operand) (ho : o.op = .load 34 x) (g off : Nat) (hx : a.eval x = .pointer (some ⟨g, off, none⟩)) (u v : Value)
    (hg : w.rangeAt g off [u, v]) (h : K (a.put o.dst (.agg #[u, v])) w) : o.wp Try.prog a w K Q := by
  have hl := run_loadVar_mid (P := Try.prog) w g off 34 [u, v] _ hg Try.underlying34 rfl info_pk
  unfold Oper.wp execOp
  simp only [ho, hx, Instr.loadAt, Instr.sureAddr, Sem.run_bind, Sem.run_pure, Result.andThen_ok, hl]
  exact h
theorem yieldsIf_load_pk_mid (hw : Region.wanted o (yielded ops a.tmps) = true) (x : Operand) (ho : o.op = .load 34 x) (g off : Nat) (hx : a.eval x = .pointer (some ⟨g, off, none⟩)) (u v : Value)
    (hS : ∀ w, S w → w.rangeAt g off [u, v]) : YieldsIf Try.prog ops S o (.agg #[u, v]) a :=
  yieldsIf_load_mid hw _ x ho g off hx [u, v] _ hS Try.underlying34 rfl info_pk
theorem store_pk {c : Array Value} {g : Nat} (hgd : o.guard = none) (x y : Operand) (ho : o.op = .store 34 x y) (u : Int) (s : Sl)
    (hx : a.eval x = .pointer (some ⟨g, 0, none⟩)) (hy : a.eval y = .agg #[.int .i64 u, .slice s.p s.n s.c]) (hg : w.heap[g]? = some (.cells c 34)) (hc : c.size = 2)
    (h : wpList Try.prog ops Q rest (a.put o.dst undef) (w.setRow g #[.int .i64 u, .slice s.p s.n s.c])) : wpList Try.prog ops Q (o :: rest) a w :=
  wpList_store_row hgd _ x y ho g #[.int .i64 u, .slice s.p s.n s.c] hx hy _ c hg info_pk (by rw [hc]; rfl) (by simp [Value.oneCell']) h
theorem alloc_pk (hgd : o.guard = none) (ho : o.op = .alloc 34)
    (h : wpList Try.prog ops Q rest (a.put o.dst (.pointer (some ⟨w.heap.size, 0, none⟩))) (w.alloc (.cells #[.int .i64 0, .slice none 0 0] 34))) : wpList Try.prog ops Q (o :: rest) a w :=
  wpList_alloc_z hgd _ ho _ zero_pk h
end
/-- The answer of a function whose results are a packet in memory and a number. -/
theorem results_pk {fn : Func} {p q : Tmp} (h : fn.results = #[.cell p 34, .tmp q]) (tmps : Array Value) (w : World) (g : Nat) (u v : Value)
    (hp : tmps.getD p undef = .pointer (some ⟨g, 0, none⟩)) (hg : w.heap[g]? = some (.cells #[u, v] 34)) : (results fn tmps).run Try.prog w = .ok (.tuple #[.agg #[u, v], tmps.getD q undef]) w := by
  have hl := run_loadVar_row (P := Try.prog) w g 34 34 #[u, v] (0, 0) _ hg Try.underlying34 rfl info_pk
  have hp' : tmps[p]?.getD undef = .pointer (some ⟨g, 0, none⟩) := by simpa using hp
  unfold results
  simp [h, hp', asAddr, hl]
end Go.Proofs.Ytpglbakcjihohab

/-! The program's Items, Watermark, Sync, Crash, Send, for every node. -/
namespace Go.Proofs.Ytpglbakcjihohab
open Go.RowKit
set_option maxRecDepth 100000

theorem info_lg : (Try.prog.info? 71).map (·.size) = some 2 := by kernel_rfl
theorem built_lg (p : Option Addr) (n c : Nat) (x : Int) : Try.prog.built 71 [(0, .slice p n c), (1, .int .i64 x)] = some #[.slice p n c, .int .i64 x] := by kernel_rfl
theorem results_lg {fn : Func} {p : Tmp} (h : fn.results = #[.cell p 71]) (tmps : Array Value) (w : World) (g : Nat) (u v : Value)
    (hp : tmps.getD p undef = .pointer (some ⟨g, 0, none⟩)) (hg : w.heap[g]? = some (.cells #[u, v] 71)) : (results fn tmps).run Try.prog w = .ok (.agg #[u, v]) w :=
  results_cell_row h tmps w g _ _ (0, 0) _ hp hg Try.underlying71 rfl info_lg
set_option maxHeartbeats 2000000 in
theorem lCopy_any (w : World) (bs o : Nat) (p : Option Addr) (m c : Nat) (mk : Int) (l : List It) (h : LgR w bs o p m c mk l) :
    Calls Try.prog 55 #[.pointer (some ⟨bs, o, none⟩)] w fun e w' => ∃ s : Sl, e = .returned (.agg #[.slice s.p s.n s.c, .int .i64 mk]) ∧ Own clIt w' w.heap.size 80 s.val (l.filter (inRg 0 19)) ∧ Below w.heap.size w w' := by
  have H : Hid (LgR w bs o p m c mk l) := h
  clear h
  go_enter Try.func55, Try.ntmps55
  go_upto_region 1 with fail
  obtain ⟨w1, hw1⟩ : ∃ w1, w1 = w.alloc (.cells #[.slice none 0 0, .int .i64 0] 71) := ⟨_, rfl⟩
  have G1 : Hid (w1.heap[w.heap.size]? = some (.cells #[.slice none 0 0, .int .i64 0] 71)) := by unfold Hid; rw [hw1]; exact heap_alloc_new _ _
  have HB1 : Hid (Below w.heap.size w w1) := by unfold Hid; rw [hw1]; exact below_alloc _ _
  have H1 : Hid (LgR w1 bs o p m c mk l) := H.out.below HB1.out
  have hs1 : w1.heap.size = w.heap.size + 1 := by rw [hw1]; simp
  rw [← hw1]
  clear hw1
  have hT0 : (fun w' : World => w'.cell? ⟨bs, o + 1, none⟩ = some (.int .i64 mk)) w1.drew := H1.out.c1
  refine wp_region_held (S := fun w' : World => w'.cell? ⟨bs, o + 1, none⟩ = some (.int .i64 mk)) mixed ?_
  refine wpAnyH_take (i := 0) (v := (.pointer (some ⟨bs, o, none⟩))) rfl (by kernel_rfl) (by kernel_rfl) (by kernel_rfl) (fun _ _ _ h => h) (Or.inl ⟨by rfl, fun wx hx => by go_simp⟩) hT0 ?_
  try dsimp only
  try simp only [Act.put, List.getElem_toArray, List.getElem_cons_succ, List.getElem_cons_zero, List.setIfInBounds_toArray, List.set_cons_zero, List.set_cons_succ]
  refine wpAnyH_take (i := 2) (v := (.pointer (some ⟨bs, o, none⟩))) rfl (by kernel_rfl) (by kernel_rfl) (by kernel_rfl) (fun _ _ _ h => h) (Or.inl ⟨by rfl, fun wx hx => by go_simp⟩) hT0 ?_
  try dsimp only
  try simp only [Act.put, List.getElem_toArray, List.getElem_cons_succ, List.getElem_cons_zero, List.setIfInBounds_toArray, List.set_cons_zero, List.set_cons_succ]
  refine wpAnyH_take (i := 3) (v := (.pointer (some ⟨bs, o, none⟩))) rfl (by kernel_rfl) (by kernel_rfl) (by kernel_rfl) (fun _ _ _ h => h) (Or.inl ⟨by rfl, fun wx hx => by go_simp⟩) hT0 ?_
  try dsimp only
  try simp only [Act.put, List.getElem_toArray, List.getElem_cons_succ, List.getElem_cons_zero, List.setIfInBounds_toArray, List.set_cons_zero, List.set_cons_succ]
  refine wpAnyH_take (i := 4) (v := (.pointer (some ⟨bs, o + 1, none⟩))) rfl (by kernel_rfl) (by kernel_rfl) (by kernel_rfl) (fun _ _ _ h => h) (Or.inl ⟨by rfl, fun wx hx => by go_simp⟩) hT0 ?_
  try dsimp only
  try simp only [Act.put, List.getElem_toArray, List.getElem_cons_succ, List.getElem_cons_zero, List.setIfInBounds_toArray, List.set_cons_zero, List.set_cons_succ]
  refine wpAnyH_take (i := 5) (v := (.int .i64 mk)) rfl (by kernel_rfl) (by kernel_rfl) (by kernel_rfl) (fun _ _ _ h => h) (Or.inl ⟨by rfl, fun wx hx => by have hx1 := hx; go_simp⟩) hT0 ?_
  try dsimp only
  try simp only [Act.put, List.getElem_toArray, List.getElem_cons_succ, List.getElem_cons_zero, List.setIfInBounds_toArray, List.set_cons_zero, List.set_cons_succ]
  refine wpAnyH_all (rs := [1]) (by kernel_rfl) (by simp) ?_
  intro jj hjj
  simp only [List.mem_cons, List.not_mem_nil, or_false] at hjj
  subst hjj
  refine wpOp_of_wp rfl rfl ?_
  go_simp
  refine (lItems_any w1.drew bs o p m c mk l ⟨H1.out.c0, H1.out.c1, H1.out.rows, H1.out.len, H1.out.small⟩ 0 19).mono ?_
  rintro e w5 ⟨v5, rfl, hown5, hb5⟩
  replace hb5 : Below w1.heap.size w1 w5 := below_drawn' hb5
  replace hown5 : Own clIt w5 w1.heap.size 80 v5 (l.filter (inRg 0 19)) := hown5
  obtain ⟨s5, rfl⟩ : ∃ s5 : Sl, v5 = .slice s5.p s5.n s5.c := by obtain ⟨p, c, e, _⟩ := hown5.form; exact ⟨⟨p, _, c⟩, e⟩
  have hT1 : (fun w' : World => w'.cell? ⟨bs, o + 1, none⟩ = some (.int .i64 mk)) w5 := cell_keep hb5 H1.out.c1
  refine ⟨hT1, ?_⟩
  try dsimp only
  try simp only [Act.put, List.getElem_toArray, List.getElem_cons_succ, List.getElem_cons_zero, List.setIfInBounds_toArray, List.set_cons_zero, List.set_cons_succ]
  refine wpAnyH_all (rs := [6]) (by kernel_rfl) (by simp) ?_
  intro jj hjj
  simp only [List.mem_cons, List.not_mem_nil, or_false] at hjj
  subst hjj
  refine wpOp_build_z rfl rfl _ _ rfl #[.slice s5.p s5.n s5.c, .int .i64 mk] (by refine Eq.trans ?_ (built_lg s5.p s5.n s5.c mk); kernel_rfl) ?_
  refine ⟨hT1, ?_⟩
  try dsimp only
  try simp only [Act.put, List.getElem_toArray, List.getElem_cons_succ, List.getElem_cons_zero, List.setIfInBounds_toArray, List.set_cons_zero, List.set_cons_succ]
  refine wpAnyH_all (rs := [7]) (by kernel_rfl) (by simp) ?_
  intro jj hjj
  simp only [List.mem_cons, List.not_mem_nil, or_false] at hjj
  subst hjj
  have G5 := keep hb5 G1.out
  refine wpOp_store_row rfl rfl _ _ _ rfl #[.slice s5.p s5.n s5.c, .int .i64 mk] rfl rfl G5 info_lg rfl (by simp [Value.oneCell']) ?_
  have hbx := block_lt_of_cell H.out.c1
  refine ⟨cell_setRow (by omega) hT1, ?_⟩
  try dsimp only
  try simp only [Act.put, List.getElem_toArray, List.getElem_cons_succ, List.getElem_cons_zero, List.setIfInBounds_toArray, List.set_cons_zero, List.set_cons_succ]
  refine wpAnyH_done (by kernel_rfl) ?_ _
  go_wp2
  refine bodyPost_ret (results_lg rfl _ _ _ _ _ rfl (setRow_blk G5)) rfl ⟨s5, rfl, ?_, below_setRow _ (bnext HB1.out hb5) (Nat.le_refl _)⟩
  exact (hown5.chg fun j hj => setRow_other _ _ _ _ (by have := (hown5.lt j hj).1; omega)).mono (by omega)
theorem IsSt.setBoth {A : Array Value} {t : List Int} {wid : Int} {V : Nat → Sl} {D D' : List Nd} (h : IsSt A t wid V D) (h8 : t.length ≤ 8) (q : Nat) (hq : q < 16) (s : Sl) (mk : Int) (hk : MQ D' q = mk) (hm : ∀ r, r < 16 → r ≠ q → MQ D' r = MQ D r) : IsSt (lay A (10 + q * 2) [.slice s.p s.n s.c, .int .i64 mk]) t wid (updV V q s) D' := by
  have hs := h.size
  have out : ∀ i, i < 10 + q * 2 ∨ 10 + q * 2 + 2 ≤ i → (lay A (10 + q * 2) [.slice s.p s.n s.c, .int .i64 mk])[i]? = A[i]? := fun i hi => lay_get_out (by simp; omega) (by simp; omega)
  have in0 : (lay A (10 + q * 2) [.slice s.p s.n s.c, .int .i64 mk])[10 + q * 2 + 0]? = some (.slice s.p s.n s.c) := lay_get_in (by simp; omega) (by simp)
  have in1 : (lay A (10 + q * 2) [.slice s.p s.n s.c, .int .i64 mk])[10 + q * 2 + 1]? = some (.int .i64 mk) := lay_get_in (by simp; omega) (by simp)
  refine ⟨?_, by rw [out _ (by omega)]; exact h.len, fun k hk => by rw [out _ (by omega)]; exact h.up k hk, by rw [out _ (by omega)]; exact h.wid, fun r hr => ?_, fun r hr => ?_⟩
  · have := congrArg List.length (show (lay A (10 + q * 2) [.slice s.p s.n s.c, .int .i64 mk]).toList = _ from rfl)
    simp [lay] at this ⊢; omega
  · by_cases e : r = q
    · subst e; simp only [updV, if_pos]; exact in0
    · rw [out _ (by omega)]; simp only [updV, if_neg e]; exact h.sl r hr
  · by_cases e : r = q
    · subst e; rw [hk]; exact in1
    · rw [out _ (by omega), hm r hr e]; exact h.mrk r hr
set_option maxHeartbeats 1000000 in
theorem sItems_any (w : World) (own : Ghost) (B0 bs : Nat) (t : List Int) (wid : Int) (D : List Nd) (h : SR w own B0 bs t wid D) (hd : DI D 100000000) (n : Int) :
    Calls Try.prog 11 #[.pointer (some ⟨bs, 0, none⟩), .int .i64 n] w fun e w' => ∃ v, e = .returned v ∧ Own clIt w' w.heap.size 80 v (lvAt t D n) ∧ Below w.heap.size w w' := by
  obtain ⟨V, A, h⟩ := h
  have HT : Hid (PTree w bs t) := h.tree
  by_cases h1 : isNd t n = true
  · obtain ⟨k, d, rfl, hk, hk8, hx⟩ := h.at n h1
    have HL : Hid (LgR w bs (10 + k * 2) (V k).p (V k).n (V k).c (MQ D k) (LQ t D k)) := h.lgr hd k (by omega)
    have HV : Hid (lvAt t D k = (LQ t D k).filter (inRg 0 19)) := by unfold Hid; rw [filt_all (h.good hd k).inb, LQ_live t D k d hk8 hx]; unfold lvAt; rw [if_pos h1]; simp [hx]
    clear h
    have k0 : (0 : Int) ≤ (k : Int) := by omega
    have k1 : (k : Int) < 8 := by omega
    go_enter Try.func11, Try.ntmps11
    go_wp2_with (first | (go_at_call 26; refine (has_any _ _ t HT.out _).mono ?_; rintro e w1 ⟨rfl, rfl⟩; rw [h1]) | (go_at_call 29; refine (lItems_any _ _ _ _ _ _ _ _ HL.out 0 19).mono ?_; rintro e w1 ⟨v1, rfl, ho1, hb1⟩))
    go_ret
    exact ⟨v1, rfl, by rw [HV.out]; exact ho1, hb1⟩
  · have h1' : isNd t n = false := by simpa using h1
    have HV : Hid (lvAt t D n = []) := by unfold Hid lvAt; rw [if_neg h1]
    clear h
    go_enter Try.func11, Try.ntmps11
    go_wp2_with (go_at_call 26; refine (has_any _ _ t HT.out _).mono ?_; rintro e w1 ⟨rfl, rfl⟩; rw [h1'])
    go_ret
    exact ⟨_, rfl, by rw [HV.out]; exact Own.nil _ _ _, Below.refl _ _⟩
set_option maxHeartbeats 1000000 in
theorem sMark_any (w : World) (own : Ghost) (B0 bs : Nat) (t : List Int) (wid : Int) (D : List Nd) (h : SR w own B0 bs t wid D) (n : Int) :
    Calls Try.prog 31 #[.pointer (some ⟨bs, 0, none⟩), .int .i64 n] w fun e w' => e = .returned (.int .i64 (wmAt t D n)) ∧ Below w.heap.size w w' := by
  obtain ⟨V, A, h⟩ := h
  have HT : Hid (PTree w bs t) := h.tree
  have h8 := h.T.le
  by_cases h1 : wrg t n = 0
  · have h2 : isNd t n = true := by
      unfold wrg at h1
      split at h1
      · assumption
      · omega
    obtain ⟨k, d, rfl, hk, hk8, hx⟩ := h.at n h2
    have HC : Hid (w.cell? ⟨bs, 10 + k * 2 + 1, none⟩ = some (.int .i64 (MQ D k))) := by unfold Hid; rw [cell_of_row _ _ _ _ _ _ h.main]; exact h.is.mrk k (by omega)
    have HV : Hid (wmAt t D k = MQ D k) := by unfold Hid wmAt; rw [if_pos h1, MQ_live D k d hk8 hx]; simp [hx]
    clear h
    have k0 : (0 : Int) ≤ (k : Int) := by omega
    have k1 : (k : Int) < 8 := by omega
    go_enter Try.func31, Try.ntmps31
    go_wp2_with (first | (go_at_call 56; refine (leafError_any _ _ t HT.out _ h8).mono ?_; rintro e w1 ⟨rfl, rfl⟩; rw [h1]) | (go_at_call 57; refine (lWatermark_any _ _ _ _ HC.out).mono ?_; rintro e w1 ⟨rfl, rfl⟩))
    go_ret
    exact ⟨by rw [HV.out]; rfl, Below.refl _ _⟩
  · have HV : Hid (wmAt t D n = -1) := by unfold Hid wmAt; rw [if_neg h1]
    clear h
    have hb : (wrg t n == 0) = false := by simpa using h1
    have hb2 : (wrg t n != 0) = true := by simpa using h1
    go_enter Try.func31, Try.ntmps31
    go_wp2_with (go_at_call 56; refine (leafError_any _ _ t HT.out _ h8).mono ?_; rintro e w1 ⟨rfl, rfl⟩)
    go_ret
    exact ⟨by rw [HV.out]; rfl, Below.refl _ _⟩
/-- A ledger stored over another one. -/
theorem SRep.copied {w w5 : World} {own : Ghost} {B0 bs : Nat} {t : List Int} {wid : Int} {D D' : List Nd} {V : Nat → Sl} {A : Array Value} (h : SRep w own B0 bs t wid D V A) (hB0 : B0 ≤ w.heap.size) (q : Nat) (hq : q < 16) (s : Sl) (mk : Int) (hb : Below w.heap.size w w5) (hown : Own clIt w5 w.heap.size 80 s.val (LQ t D' q))
    (hk : MQ D' q = mk) (hm : ∀ r, r < 16 → r ≠ q → MQ D' r = MQ D r) (hL : ∀ r, r < 16 → r ≠ q → LQ t D' r = LQ t D r) (hld : D'.length = t.length) (hev : ∀ (k : Nat) (d : Nd), D'[k]? = some d → EvOk d.lev ∧ EvOk d.kev ∧ Good d.items ∧ Good d.saved ∧ 0 ≤ d.lmk ∧ d.lmk ≤ 20000 ∧ 0 ≤ d.kmk ∧ d.kmk ≤ 20000) :
    Chg SR w own B0 bs t wid D' (w5.setRow bs (lay A (10 + q * 2) [.slice s.p s.n s.c, .int .i64 mk])) := by
  have hbs := lt_of_blk h.main
  have g5 := keep hb h.main
  refine h.gen q hq s hb.os hb.tape hb.output (by simpa using hb.size) (fun k hk h1 _ => ?_) (setRow_blk g5) (h.is.setBoth h.T.le q hq s mk hk hm) ?_ ?_ hL hld hev
  · rw [setRow_other _ _ _ _ h1]; exact hb.block k hk
  · exact (hown.chg fun j hj => setRow_other _ _ _ _ (by have := (hown.lt j hj).1; omega)).mono hB0
  · exact fun g e => .inr (hown.lt g e).1
set_option maxHeartbeats 4000000 in
theorem sSync_any (w : World) (own : Ghost) (B0 bs : Nat) (t : List Int) (wid : Int) (D : List Nd) (h : SR w own B0 bs t wid D) (hd : DI D 100000000) (hB0 : B0 ≤ w.heap.size) (n : Int) :
    Calls Try.prog 30 #[.pointer (some ⟨bs, 0, none⟩), .int .i64 n] w fun e w' => e = .returned (.int .i64 (ndE t n)) ∧ Chg SR w own B0 bs t wid (synD t D n) w' := by
  obtain ⟨V, A, h⟩ := h
  have HT : Hid (PTree w bs t) := h.tree
  have HS : Hid (SRep w own B0 bs t wid D V A) := h
  by_cases h1 : isNd t n = true
  · obtain ⟨k, d, rfl, hk, hk8, hx⟩ := h.at n h1
    have HE : Hid (ndE t k = 0) := by unfold Hid ndE; rw [if_pos h1]
    have HD : Hid (synD t D k = D.set k { d with kev := d.lev, kcl := d.lcl, kmk := d.lmk, saved := d.items }) := by unfold Hid synD; rw [if_pos h1]; simp [hx]
    have HL : Hid (LgR w bs (10 + k * 2) (V k).p (V k).n (V k).c (MQ D k) (LQ t D k)) := h.lgr hd k (by omega)
    have HG : Hid (Good (LQ t D k)) := h.good hd k
    have HX : Hid (D[k]? = some d) := hx
    clear h hx
    have k0 : (0 : Int) ≤ (k : Int) := by omega
    have k1 : (k : Int) < 8 := by omega
    go_enter Try.func30, Try.ntmps30
    go_upto_region 3 with (go_at_call 26; refine (has_any _ _ t HT.out _).mono ?_; rintro e w1 ⟨rfl, rfl⟩; rw [h1])
    rename World => w
    have hT0 : (fun w' : World => w.heap.size ≤ w'.heap.size) w.drew := Nat.le_refl _
    refine wp_region_held (S := fun w' : World => w.heap.size ≤ w'.heap.size) mixed ?_
    refine wpAnyH_take (i := 0) (v := (.pointer (some ⟨bs, 0, none⟩))) rfl (by kernel_rfl) (by kernel_rfl) (by kernel_rfl) (fun _ _ _ h => h) (Or.inl ⟨by rfl, fun wx hx => by go_simp⟩) hT0 ?_
    try dsimp only
    try simp only [Act.put, List.getElem_toArray, List.getElem_cons_succ, List.getElem_cons_zero, List.setIfInBounds_toArray, List.set_cons_zero, List.set_cons_succ]
    refine wpAnyH_take (i := 1) (v := (.int .i64 k)) rfl (by kernel_rfl) (by kernel_rfl) (by kernel_rfl) (fun _ _ _ h => h) (Or.inl ⟨by rfl, fun wx hx => by go_simp⟩) hT0 ?_
    try dsimp only
    try simp only [Act.put, List.getElem_toArray, List.getElem_cons_succ, List.getElem_cons_zero, List.setIfInBounds_toArray, List.set_cons_zero, List.set_cons_succ]
    refine wpAnyH_take (i := 2) (v := (.pointer (some ⟨bs, 0, none⟩))) rfl (by kernel_rfl) (by kernel_rfl) (by kernel_rfl) (fun _ _ _ h => h) (Or.inl ⟨by rfl, fun wx hx => by go_simp⟩) hT0 ?_
    try dsimp only
    try simp only [Act.put, List.getElem_toArray, List.getElem_cons_succ, List.getElem_cons_zero, List.setIfInBounds_toArray, List.set_cons_zero, List.set_cons_succ]
    refine wpAnyH_take (i := 3) (v := (.int .i64 k)) rfl (by kernel_rfl) (by kernel_rfl) (by kernel_rfl) (fun _ _ _ h => h) (Or.inl ⟨by rfl, fun wx hx => by go_simp⟩) hT0 ?_
    try dsimp only
    try simp only [Act.put, List.getElem_toArray, List.getElem_cons_succ, List.getElem_cons_zero, List.setIfInBounds_toArray, List.set_cons_zero, List.set_cons_succ]
    refine wpAnyH_take (i := 4) (v := (.pointer (some ⟨bs, 0, none⟩))) rfl (by kernel_rfl) (by kernel_rfl) (by kernel_rfl) (fun _ _ _ h => h) (Or.inl ⟨by rfl, fun wx hx => by go_simp⟩) hT0 ?_
    try dsimp only
    try simp only [Act.put, List.getElem_toArray, List.getElem_cons_succ, List.getElem_cons_zero, List.setIfInBounds_toArray, List.set_cons_zero, List.set_cons_succ]
    refine wpAnyH_take (i := 5) (v := (.pointer (some ⟨bs, 10, none⟩))) rfl (by kernel_rfl) (by kernel_rfl) (by kernel_rfl) (fun _ _ _ h => h) (Or.inl ⟨by rfl, fun wx hx => by go_simp⟩) hT0 ?_
    try dsimp only
    try simp only [Act.put, List.getElem_toArray, List.getElem_cons_succ, List.getElem_cons_zero, List.setIfInBounds_toArray, List.set_cons_zero, List.set_cons_succ]
    refine wpAnyH_take (i := 6) (v := (.pointer (some ⟨bs, 10 + k * 2, none⟩))) rfl (by kernel_rfl) (by kernel_rfl) (by kernel_rfl) (fun _ _ _ h => h) (Or.inl ⟨by rfl, fun wx hx => by go_simp⟩) hT0 ?_
    try dsimp only
    try simp only [Act.put, List.getElem_toArray, List.getElem_cons_succ, List.getElem_cons_zero, List.setIfInBounds_toArray, List.set_cons_zero, List.set_cons_succ]
    refine wpAnyH_take (i := 8) (v := (.pointer (some ⟨bs, 0, none⟩))) rfl (by kernel_rfl) (by kernel_rfl) (by kernel_rfl) (fun _ _ _ h => h) (Or.inl ⟨by rfl, fun wx hx => by go_simp⟩) hT0 ?_
    try dsimp only
    try simp only [Act.put, List.getElem_toArray, List.getElem_cons_succ, List.getElem_cons_zero, List.setIfInBounds_toArray, List.set_cons_zero, List.set_cons_succ]
    refine wpAnyH_take (i := 9) (v := (.pointer (some ⟨bs, 26, none⟩))) rfl (by kernel_rfl) (by kernel_rfl) (by kernel_rfl) (fun _ _ _ h => h) (Or.inl ⟨by rfl, fun wx hx => by go_simp⟩) hT0 ?_
    try dsimp only
    try simp only [Act.put, List.getElem_toArray, List.getElem_cons_succ, List.getElem_cons_zero, List.setIfInBounds_toArray, List.set_cons_zero, List.set_cons_succ]
    refine wpAnyH_all (rs := [7]) (by kernel_rfl) (by simp) ?_
    intro jj hjj
    simp only [List.mem_cons, List.not_mem_nil, or_false] at hjj
    subst hjj
    refine wpOp_of_wp rfl rfl ?_
    go_simp
    refine (lCopy_any w.drew bs (10 + k * 2) _ _ _ _ _ ⟨HL.out.c0, HL.out.c1, HL.out.rows, HL.out.len, HL.out.small⟩).mono ?_
    rintro e w5 ⟨s5, rfl, hown5, hb5⟩
    replace hb5 : Below w.heap.size w w5 := below_drawn' hb5
    replace hown5 : Own clIt w5 w.heap.size 80 s5.val ((LQ t D k).filter (inRg 0 19)) := hown5
    have hT1 : (fun w' : World => w.heap.size ≤ w'.heap.size) w5 := hb5.size
    refine ⟨hT1, ?_⟩
    try dsimp only
    try simp only [Act.put, List.getElem_toArray, List.getElem_cons_succ, List.getElem_cons_zero, List.setIfInBounds_toArray, List.set_cons_zero, List.set_cons_succ]
    refine wpAnyH_take (i := 10) (v := (.pointer (some ⟨bs, 26 + k * 2, none⟩))) rfl (by kernel_rfl) (by kernel_rfl) (by kernel_rfl) (fun _ _ _ h => h) (Or.inl ⟨by rfl, fun wx hx => by go_simp⟩) hT1 ?_
    try dsimp only
    try simp only [Act.put, List.getElem_toArray, List.getElem_cons_succ, List.getElem_cons_zero, List.setIfInBounds_toArray, List.set_cons_zero, List.set_cons_succ]
    refine wpAnyH_all (rs := [11]) (by kernel_rfl) (by simp) ?_
    intro jj hjj
    simp only [List.mem_cons, List.not_mem_nil, or_false] at hjj
    subst hjj
    have g5 := keep hb5 HS.out.main
    refine wpOp_of_wp rfl rfl (wp_store_lay 71 _ _ rfl bs _ #[.slice s5.p s5.n s5.c, .int .i64 (MQ D k)] rfl rfl _ A g5 info_lg (by have := HS.out.is.size; simp; omega) (by simp [Value.oneCell']) ?_)
    refine ⟨(by simpa using hT1), ?_⟩
    try dsimp only
    try simp only [Act.put, List.getElem_toArray, List.getElem_cons_succ, List.getElem_cons_zero, List.setIfInBounds_toArray, List.set_cons_zero, List.set_cons_succ]
    refine wpAnyH_done (by kernel_rfl) ?_ _
    have Z : Hid (Chg SR w own B0 bs t wid (synD t D k) (w5.setRow bs (lay A (26 + k * 2) [.slice s5.p s5.n s5.c, .int .i64 (MQ D k)]))) := by
      unfold Hid
      have hkD : k < D.length := (List.getElem?_eq_some_iff.1 HX.out).1
      have hset : (D.set k { d with kev := d.lev, kcl := d.lcl, kmk := d.lmk, saved := d.items })[k]? = some { d with kev := d.lev, kcl := d.lcl, kmk := d.lmk, saved := d.items } := List.getElem?_set_self hkD
      have he := HS.out.ev k d HX.out
      rw [HD.out, show 26 + k * 2 = 10 + (8 + k) * 2 by omega]
      refine HS.out.copied hB0 (8 + k) (by omega) s5 (MQ D k) hb5 ?_ ?_ (fun r hr hne => ?_) (fun r hr hne => ?_) (by simpa using HS.out.ld) (fun j d' hj => ?_)
      · rw [filt_all HG.out.inb, LQ_live t D k d hk8 HX.out] at hown5
        rw [LQ_kept t _ k _ hset]; exact hown5
      · rw [MQ_kept _ k _ hset, MQ_live D k d hk8 HX.out]
      · by_cases e : r = k
        · subst e; rw [MQ_live _ r _ hk8 hset, MQ_live D r d hk8 HX.out]
        · exact MQ_set D k _ r e hne
      · by_cases e : r = k
        · subst e; rw [LQ_live t _ r _ hk8 hset, LQ_live t D r d hk8 HX.out]; rfl
        · exact LQ_set t D k _ r e hne
      · by_cases e : k = j
        · subst e
          rw [hset] at hj; cases hj
          exact ⟨he.1, he.1, he.2.2.1, he.2.2.1, he.2.2.2.2.1, he.2.2.2.2.2.1, he.2.2.2.2.1, he.2.2.2.2.2.1⟩
        · rw [List.getElem?_set_ne e] at hj; exact HS.out.ev j d' hj
    clear hT0 hT1 hown5 hb5 g5
    go_wp2
    go_ret
    exact ⟨by rw [HE.out]; rfl, Z.out⟩
  · have h1' : isNd t n = false := by simpa using h1
    have HE : Hid (ndE t n = 2) := by unfold Hid ndE; rw [if_neg h1]
    have HD : Hid (synD t D n = D) := by unfold Hid synD; rw [if_neg h1]
    clear h
    go_enter Try.func30, Try.ntmps30
    go_wp2_with (go_at_call 26; refine (has_any _ _ t HT.out _).mono ?_; rintro e w1 ⟨rfl, rfl⟩; rw [h1'])
    go_ret
    exact ⟨by rw [HE.out]; rfl, own, by rw [HD.out]; exact ⟨V, A, HS.out⟩, Same.refl _ _, Fr.refl _ _ _⟩
set_option maxHeartbeats 4000000 in
theorem sCrash_any (w : World) (own : Ghost) (B0 bs : Nat) (t : List Int) (wid : Int) (D : List Nd) (h : SR w own B0 bs t wid D) (hd : DI D 100000000) (hB0 : B0 ≤ w.heap.size) (n : Int) :
    Calls Try.prog 41 #[.pointer (some ⟨bs, 0, none⟩), .int .i64 n] w fun e w' => e = .returned (.int .i64 (ndE t n)) ∧ Chg SR w own B0 bs t wid (craD t D n) w' := by
  obtain ⟨V, A, h⟩ := h
  have HT : Hid (PTree w bs t) := h.tree
  have HS : Hid (SRep w own B0 bs t wid D V A) := h
  by_cases h1 : isNd t n = true
  · obtain ⟨k, d, rfl, hk, hk8, hx⟩ := h.at n h1
    have HE : Hid (ndE t k = 0) := by unfold Hid ndE; rw [if_pos h1]
    have HD : Hid (craD t D k = D.set k { d with lev := d.kev, lcl := d.kcl, lmk := d.kmk, items := d.saved }) := by unfold Hid craD; rw [if_pos h1]; simp [hx]
    have HL : Hid (LgR w bs (26 + k * 2) (V (8 + k)).p (V (8 + k)).n (V (8 + k)).c (MQ D (8 + k)) (LQ t D (8 + k))) := by unfold Hid; rw [show 26 + k * 2 = 10 + (8 + k) * 2 by omega]; exact h.lgr hd (8 + k) (by omega)
    have HG : Hid (Good (LQ t D (8 + k))) := h.good hd (8 + k)
    have HX : Hid (D[k]? = some d) := hx
    clear h hx
    have k0 : (0 : Int) ≤ (k : Int) := by omega
    have k1 : (k : Int) < 8 := by omega
    go_enter Try.func41, Try.ntmps41
    go_upto_region 3 with (go_at_call 26; refine (has_any _ _ t HT.out _).mono ?_; rintro e w1 ⟨rfl, rfl⟩; rw [h1])
    rename World => w
    have hT0 : (fun w' : World => w.heap.size ≤ w'.heap.size) w.drew := Nat.le_refl _
    refine wp_region_held (S := fun w' : World => w.heap.size ≤ w'.heap.size) mixed ?_
    refine wpAnyH_take (i := 0) (v := (.pointer (some ⟨bs, 0, none⟩))) rfl (by kernel_rfl) (by kernel_rfl) (by kernel_rfl) (fun _ _ _ h => h) (Or.inl ⟨by rfl, fun wx hx => by go_simp⟩) hT0 ?_
    try dsimp only
    try simp only [Act.put, List.getElem_toArray, List.getElem_cons_succ, List.getElem_cons_zero, List.setIfInBounds_toArray, List.set_cons_zero, List.set_cons_succ]
    refine wpAnyH_take (i := 1) (v := (.int .i64 k)) rfl (by kernel_rfl) (by kernel_rfl) (by kernel_rfl) (fun _ _ _ h => h) (Or.inl ⟨by rfl, fun wx hx => by go_simp⟩) hT0 ?_
    try dsimp only
    try simp only [Act.put, List.getElem_toArray, List.getElem_cons_succ, List.getElem_cons_zero, List.setIfInBounds_toArray, List.set_cons_zero, List.set_cons_succ]
    refine wpAnyH_take (i := 2) (v := (.pointer (some ⟨bs, 0, none⟩))) rfl (by kernel_rfl) (by kernel_rfl) (by kernel_rfl) (fun _ _ _ h => h) (Or.inl ⟨by rfl, fun wx hx => by go_simp⟩) hT0 ?_
    try dsimp only
    try simp only [Act.put, List.getElem_toArray, List.getElem_cons_succ, List.getElem_cons_zero, List.setIfInBounds_toArray, List.set_cons_zero, List.set_cons_succ]
    refine wpAnyH_take (i := 3) (v := (.int .i64 k)) rfl (by kernel_rfl) (by kernel_rfl) (by kernel_rfl) (fun _ _ _ h => h) (Or.inl ⟨by rfl, fun wx hx => by go_simp⟩) hT0 ?_
    try dsimp only
    try simp only [Act.put, List.getElem_toArray, List.getElem_cons_succ, List.getElem_cons_zero, List.setIfInBounds_toArray, List.set_cons_zero, List.set_cons_succ]
    refine wpAnyH_take (i := 4) (v := (.pointer (some ⟨bs, 0, none⟩))) rfl (by kernel_rfl) (by kernel_rfl) (by kernel_rfl) (fun _ _ _ h => h) (Or.inl ⟨by rfl, fun wx hx => by go_simp⟩) hT0 ?_
    try dsimp only
    try simp only [Act.put, List.getElem_toArray, List.getElem_cons_succ, List.getElem_cons_zero, List.setIfInBounds_toArray, List.set_cons_zero, List.set_cons_succ]
    refine wpAnyH_take (i := 5) (v := (.pointer (some ⟨bs, 26, none⟩))) rfl (by kernel_rfl) (by kernel_rfl) (by kernel_rfl) (fun _ _ _ h => h) (Or.inl ⟨by rfl, fun wx hx => by go_simp⟩) hT0 ?_
    try dsimp only
    try simp only [Act.put, List.getElem_toArray, List.getElem_cons_succ, List.getElem_cons_zero, List.setIfInBounds_toArray, List.set_cons_zero, List.set_cons_succ]
    refine wpAnyH_take (i := 6) (v := (.pointer (some ⟨bs, 26 + k * 2, none⟩))) rfl (by kernel_rfl) (by kernel_rfl) (by kernel_rfl) (fun _ _ _ h => h) (Or.inl ⟨by rfl, fun wx hx => by go_simp⟩) hT0 ?_
    try dsimp only
    try simp only [Act.put, List.getElem_toArray, List.getElem_cons_succ, List.getElem_cons_zero, List.setIfInBounds_toArray, List.set_cons_zero, List.set_cons_succ]
    refine wpAnyH_take (i := 8) (v := (.pointer (some ⟨bs, 0, none⟩))) rfl (by kernel_rfl) (by kernel_rfl) (by kernel_rfl) (fun _ _ _ h => h) (Or.inl ⟨by rfl, fun wx hx => by go_simp⟩) hT0 ?_
    try dsimp only
    try simp only [Act.put, List.getElem_toArray, List.getElem_cons_succ, List.getElem_cons_zero, List.setIfInBounds_toArray, List.set_cons_zero, List.set_cons_succ]
    refine wpAnyH_take (i := 9) (v := (.pointer (some ⟨bs, 10, none⟩))) rfl (by kernel_rfl) (by kernel_rfl) (by kernel_rfl) (fun _ _ _ h => h) (Or.inl ⟨by rfl, fun wx hx => by go_simp⟩) hT0 ?_
    try dsimp only
    try simp only [Act.put, List.getElem_toArray, List.getElem_cons_succ, List.getElem_cons_zero, List.setIfInBounds_toArray, List.set_cons_zero, List.set_cons_succ]
    refine wpAnyH_all (rs := [7]) (by kernel_rfl) (by simp) ?_
    intro jj hjj
    simp only [List.mem_cons, List.not_mem_nil, or_false] at hjj
    subst hjj
    refine wpOp_of_wp rfl rfl ?_
    go_simp
    refine (lCopy_any w.drew bs (26 + k * 2) _ _ _ _ _ ⟨HL.out.c0, HL.out.c1, HL.out.rows, HL.out.len, HL.out.small⟩).mono ?_
    rintro e w5 ⟨s5, rfl, hown5, hb5⟩
    replace hb5 : Below w.heap.size w w5 := below_drawn' hb5
    replace hown5 : Own clIt w5 w.heap.size 80 s5.val ((LQ t D (8 + k)).filter (inRg 0 19)) := hown5
    have hT1 : (fun w' : World => w.heap.size ≤ w'.heap.size) w5 := hb5.size
    refine ⟨hT1, ?_⟩
    try dsimp only
    try simp only [Act.put, List.getElem_toArray, List.getElem_cons_succ, List.getElem_cons_zero, List.setIfInBounds_toArray, List.set_cons_zero, List.set_cons_succ]
    refine wpAnyH_take (i := 10) (v := (.pointer (some ⟨bs, 10 + k * 2, none⟩))) rfl (by kernel_rfl) (by kernel_rfl) (by kernel_rfl) (fun _ _ _ h => h) (Or.inl ⟨by rfl, fun wx hx => by go_simp⟩) hT1 ?_
    try dsimp only
    try simp only [Act.put, List.getElem_toArray, List.getElem_cons_succ, List.getElem_cons_zero, List.setIfInBounds_toArray, List.set_cons_zero, List.set_cons_succ]
    refine wpAnyH_all (rs := [11]) (by kernel_rfl) (by simp) ?_
    intro jj hjj
    simp only [List.mem_cons, List.not_mem_nil, or_false] at hjj
    subst hjj
    have g5 := keep hb5 HS.out.main
    refine wpOp_of_wp rfl rfl (wp_store_lay 71 _ _ rfl bs _ #[.slice s5.p s5.n s5.c, .int .i64 (MQ D (8 + k))] rfl rfl _ A g5 info_lg (by have := HS.out.is.size; simp; omega) (by simp [Value.oneCell']) ?_)
    refine ⟨(by simpa using hT1), ?_⟩
    try dsimp only
    try simp only [Act.put, List.getElem_toArray, List.getElem_cons_succ, List.getElem_cons_zero, List.setIfInBounds_toArray, List.set_cons_zero, List.set_cons_succ]
    refine wpAnyH_done (by kernel_rfl) ?_ _
    have Z : Hid (Chg SR w own B0 bs t wid (craD t D k) (w5.setRow bs (lay A (10 + k * 2) [.slice s5.p s5.n s5.c, .int .i64 (MQ D (8 + k))]))) := by
      unfold Hid
      have hkD : k < D.length := (List.getElem?_eq_some_iff.1 HX.out).1
      have hset : (D.set k { d with lev := d.kev, lcl := d.kcl, lmk := d.kmk, items := d.saved })[k]? = some { d with lev := d.kev, lcl := d.kcl, lmk := d.kmk, items := d.saved } := List.getElem?_set_self hkD
      have he := HS.out.ev k d HX.out
      rw [HD.out]
      refine HS.out.copied hB0 k (by omega) s5 (MQ D (8 + k)) hb5 ?_ ?_ (fun r hr hne => ?_) (fun r hr hne => ?_) (by simpa using HS.out.ld) (fun j d' hj => ?_)
      · rw [filt_all HG.out.inb, LQ_kept t D k d HX.out] at hown5
        rw [LQ_live t _ k _ hk8 hset]; exact hown5
      · rw [MQ_live _ k _ hk8 hset, MQ_kept D k d HX.out]
      · by_cases e : r = 8 + k
        · subst e; rw [MQ_kept _ k _ hset, MQ_kept D k d HX.out]
        · exact MQ_set D k _ r hne e
      · by_cases e : r = 8 + k
        · subst e; rw [LQ_kept t _ k _ hset, LQ_kept t D k d HX.out]; rfl
        · exact LQ_set t D k _ r hne e
      · by_cases e : k = j
        · subst e
          rw [hset] at hj; cases hj
          exact ⟨he.2.1, he.2.1, he.2.2.2.1, he.2.2.2.1, he.2.2.2.2.2.2.1, he.2.2.2.2.2.2.2, he.2.2.2.2.2.2.1, he.2.2.2.2.2.2.2⟩
        · rw [List.getElem?_set_ne e] at hj; exact HS.out.ev j d' hj
    clear hT0 hT1 hown5 hb5 g5
    go_wp2
    go_ret
    exact ⟨by rw [HE.out]; rfl, Z.out⟩
  · have h1' : isNd t n = false := by simpa using h1
    have HE : Hid (ndE t n = 2) := by unfold Hid ndE; rw [if_neg h1]
    have HD : Hid (craD t D n = D) := by unfold Hid craD; rw [if_neg h1]
    clear h
    go_enter Try.func41, Try.ntmps41
    go_wp2_with (go_at_call 26; refine (has_any _ _ t HT.out _).mono ?_; rintro e w1 ⟨rfl, rfl⟩; rw [h1'])
    go_ret
    exact ⟨by rw [HE.out]; rfl, own, by rw [HD.out]; exact ⟨V, A, HS.out⟩, Same.refl _ _, Fr.refl _ _ _⟩
end Go.Proofs.Ytpglbakcjihohab

/-! The program's Send, Ingest, Advance, for every node. -/
namespace Go.Proofs.Ytpglbakcjihohab
open Go.RowKit
set_option maxRecDepth 100000

set_option maxHeartbeats 2000000 in
theorem sSend_any (w : World) (own : Ghost) (B0 bs : Nat) (t : List Int) (wid : Int) (D : List Nd) (h : SR w own B0 bs t wid D) (hd : DI D 100000000) (n low high : Int) :
    Calls Try.prog 16 #[.pointer (some ⟨bs, 0, none⟩), .int .i64 n, .int .i64 low, .int .i64 high] w fun e w' => ∃ v, e = .returned (.tuple #[.agg #[.int .i64 (sndF t n low high), v], .int .i64 (sndE t n low high)]) ∧ Own clIt w' w.heap.size 80 v (sndL t D n low high) ∧ Below w.heap.size w w' := by
  obtain ⟨V, A, h⟩ := h
  have HT : Hid (PTree (w.alloc (.cells #[.int .i64 0, .slice none 0 0] 34)) bs t) := (h.below (below_alloc _ _)).tree
  by_cases h1 : isNd t n = true
  · by_cases h0 : n = 0
    · subst h0
      have HE : Hid (sndE t 0 low high = 4) := by unfold Hid sndE; rw [if_pos h1, if_pos rfl]
      have HL : Hid (sndL t D 0 low high = []) := by unfold Hid sndL; rw [if_neg (by rw [HE.out]; decide)]
      have HF : Hid (sndF t 0 low high = 0) := by unfold Hid sndF; rw [if_neg (by rw [HE.out]; decide)]
      clear h
      go_enter Try.func16, Try.ntmps16
      go_wp2_with (go_at_call 26; refine (has_any _ _ t HT.out _).mono ?_; rintro e w1 ⟨rfl, rfl⟩; rw [h1])
      exact bodyPost_ret (results_pk rfl _ _ _ _ _ rfl (by exact heap_alloc_new _ _)) rfl ⟨_, by rw [HE.out, HF.out]; rfl, by rw [HL.out]; exact Own.nil _ _ _, below_alloc _ _⟩
    · by_cases h2 : isRg low high = true
      · obtain ⟨k, d, rfl, hk, hk8, hx⟩ := h.at n h1
        have HE : Hid (sndE t k low high = 0) := by unfold Hid sndE; rw [if_pos h1, if_neg h0, if_pos h2]
        have HL : Hid (sndL t D k low high = (LQ t D (8 + k)).filter (inRg low high)) := by unfold Hid sndL; rw [if_pos HE.out, LQ_kept t D k d hx]; simp [hx]
        have HF : Hid (sndF t k low high = k) := by unfold Hid sndF; rw [if_pos HE.out]
        have k0' : ((k : Int) == 0) = false := by simpa using h0
        have HG : Hid (LgR w bs (26 + k * 2) (V (8 + k)).p (V (8 + k)).n (V (8 + k)).c (MQ D (8 + k)) (LQ t D (8 + k))) := by unfold Hid; rw [show 26 + k * 2 = 10 + (8 + k) * 2 by omega]; exact h.lgr hd (8 + k) (by omega)
        clear h
        have k0 : (0 : Int) ≤ (k : Int) := by omega
        have k1 : (k : Int) < 8 := by omega
        go_enter Try.func16, Try.ntmps16
        go_wp2_with (first | (go_at_call 26; refine (has_any _ _ t HT.out _).mono ?_; rintro e w1 ⟨rfl, rfl⟩; rw [h1]) | (go_at_call 40; refine (areWindows_any _ _ _).mono ?_; rintro e w1 ⟨rfl, rfl⟩; rw [h2]) | (go_at_call 29; refine (lItems_any _ _ _ _ _ _ _ _ (HG.out.below (below_alloc _ _)) _ _).mono ?_; rintro e w1 ⟨v1, rfl, ho1, hb1⟩; obtain ⟨s1, rfl⟩ : (∃ s1 : Sl, v1 = .slice s1.p s1.n s1.c) := (by obtain ⟨p, c, e, _⟩ := ho1.form; exact ⟨⟨p, _, c⟩, e⟩); have G1 := keep hb1 (heap_alloc_new w (.cells #[.int .i64 0, .slice none 0 0] 34)); have HB1 := bnext (below_alloc _ _) hb1) | (refine store_pk rfl _ _ rfl k s1 rfl rfl (by exact G1) rfl ?_))
        refine bodyPost_ret (results_pk rfl _ _ _ _ _ rfl (by exact setRow_blk G1)) rfl ⟨_, by rw [HE.out, HF.out]; rfl, ?_, below_setRow _ HB1 (Nat.le_refl _)⟩
        rw [HL.out]
        exact (ho1.chg fun j hj => setRow_other _ _ _ _ (by have := (ho1.lt j hj).1; simp at this; omega)).mono (by simp)
      · have h2' : isRg low high = false := by simpa using h2
        have HE : Hid (sndE t n low high = 8) := by unfold Hid sndE; rw [if_pos h1, if_neg h0, if_neg h2]
        have HL : Hid (sndL t D n low high = []) := by unfold Hid sndL; rw [if_neg (by rw [HE.out]; decide)]
        have HF : Hid (sndF t n low high = 0) := by unfold Hid sndF; rw [if_neg (by rw [HE.out]; decide)]
        clear h
        go_enter Try.func16, Try.ntmps16
        go_wp2_with (first | (go_at_call 26; refine (has_any _ _ t HT.out _).mono ?_; rintro e w1 ⟨rfl, rfl⟩; rw [h1]) | (go_at_call 40; refine (areWindows_any _ _ _).mono ?_; rintro e w1 ⟨rfl, rfl⟩; rw [h2']))
        exact bodyPost_ret (results_pk rfl _ _ _ _ _ rfl (by exact heap_alloc_new _ _)) rfl ⟨_, by rw [HE.out, HF.out]; rfl, by rw [HL.out]; exact Own.nil _ _ _, below_alloc _ _⟩
  · have h1' : isNd t n = false := by simpa using h1
    have HE : Hid (sndE t n low high = 2) := by unfold Hid sndE; rw [if_neg h1]
    have HL : Hid (sndL t D n low high = []) := by unfold Hid sndL; rw [if_neg (by rw [HE.out]; decide)]
    have HF : Hid (sndF t n low high = 0) := by unfold Hid sndF; rw [if_neg (by rw [HE.out]; decide)]
    clear h
    go_enter Try.func16, Try.ntmps16
    go_wp2_with (go_at_call 26; refine (has_any _ _ t HT.out _).mono ?_; rintro e w1 ⟨rfl, rfl⟩; rw [h1'])
    exact bodyPost_ret (results_pk rfl _ _ _ _ _ rfl (by exact heap_alloc_new _ _)) rfl ⟨_, by rw [HE.out, HF.out]; rfl, by rw [HL.out]; exact Own.nil _ _ _, below_alloc _ _⟩

/-- A leaf: what it knows. -/
theorem LQ_leaf {t : List Int} {D : List Nd} {k : Nat} {d : Nd} (hk8 : k < 8) (hx : D[k]? = some d) (hlf : isLf t k = true) : LQ t D k = known k d.lev d.lcl := by
  rw [LQ_live t D k d hk8 hx]; unfold lvg; rw [if_pos hlf]
theorem isLf_of {t : List Int} {n : Int} (h : wrg t n = 0) : isNd t n = true ∧ isLf t n = true := by
  unfold wrg at h
  split at h
  · rename_i h1
    split at h
    · rename_i h2; exact ⟨h1, h2⟩
    · omega
  · omega
set_option maxHeartbeats 4000000 in
theorem sIngest_any (w : World) (own : Ghost) (B0 bs : Nat) (t : List Int) (wid : Int) (D : List Nd) (h : SR w own B0 bs t wid D) (hd : DI D 100000000) (hB0 : B0 ≤ w.heap.size) (n at' : Int) (key : ByteArray) (v : Int) (hks : key.size ≤ maxLen) (hv0 : -2147483648 ≤ v) (hv1 : v ≤ 2147483647) :
    Calls Try.prog 42 #[.pointer (some ⟨bs, 0, none⟩), .int .i64 n, .int .i64 at', .string key, .int .i32 v] w fun e w' => e = .returned (.int .i64 (ingE t wid D n at' key)) ∧ Chg SR w own B0 bs t wid (ingD t wid D n at' key v) w' := by
  obtain ⟨V, A, h⟩ := h
  have HT : Hid (PTree w bs t) := h.tree
  have HS : Hid (SRep w own B0 bs t wid D V A) := h
  have h8 := h.T.le
  have HC9 : Hid (w.cell? ⟨bs, 9, none⟩ = some (.int .i64 wid)) := h.width
  have w0 := h.wid0
  have w1' := h.wid1
  have HSAME : Hid (ingE t wid D n at' key ≠ 0 → ∀ w', Below w.heap.size w w' → Chg SR w own B0 bs t wid (ingD t wid D n at' key v) w') := fun he w' hb => ⟨own, by unfold ingD; rw [if_neg he]; exact ⟨V, A, h.below hb⟩, Same.refl _ _, Fr.of_below hb⟩
  by_cases h1 : wrg t n = 0
  · obtain ⟨h2, hlf⟩ := isLf_of h1
    obtain ⟨k, d, rfl, hk, hk8, hx⟩ := h.at n h2
    by_cases a0 : at' < 0 ∨ 20 * wid ≤ at'
    · have HE : Hid (ingE t wid D k at' key = 5) := by unfold Hid ingE; rw [if_pos h1, if_pos a0]
      have HW : Hid (wof wid at' = -1) := by unfold Hid wof; rw [if_pos a0]
      clear h a0
      go_enter Try.func42, Try.ntmps42
      go_wp2_with (first | (go_at_call 56; refine (leafError_any _ _ t HT.out _ h8).mono ?_; rintro e wA ⟨rfl, rfl⟩; rw [h1]) | (go_at_call 64; refine (windowOf_any _ _ wid HC9.out w0 w1' _).mono ?_; rintro e wA ⟨rfl, rfl⟩; rw [HW.out]))
      go_ret
      exact ⟨by rw [HE.out]; rfl, HSAME.out (by rw [HE.out]; decide) _ (Below.refl _ _)⟩
    · have q0 : 0 ≤ at' / wid := Int.ediv_nonneg (by omega) (by omega)
      have q1 : at' / wid < 20 := Int.ediv_lt_of_lt_mul (by omega) (by omega)
      obtain ⟨qn, hqn⟩ : ∃ qn : Nat, at' / wid = qn := ⟨(at' / wid).toNat, by omega⟩
      have HW : Hid (wof wid at' = qn) := by unfold Hid wof; rw [if_neg a0, hqn]
      have qb : qn < 20 := by omega
      have qi : ((qn : Int) == -1) = false := by simp
      by_cases a2 : 20 < key.size
      · have HE : Hid (ingE t wid D k at' key = 6) := by unfold Hid ingE; rw [if_pos h1, if_neg a0, if_pos a2]
        have hks' : (key.size : Int) ≤ 9223372036854775807 := by simp only [maxLen] at hks; omega
        clear h a0 q0 q1 hqn
        go_enter Try.func42, Try.ntmps42
        go_wp2_with (first | (go_at_call 56; refine (leafError_any _ _ t HT.out _ h8).mono ?_; rintro e wA ⟨rfl, rfl⟩; rw [h1]) | (go_at_call 64; refine (windowOf_any _ _ wid HC9.out w0 w1' _).mono ?_; rintro e wA ⟨rfl, rfl⟩; rw [HW.out]))
        go_ret
        exact ⟨by rw [HE.out]; rfl, HSAME.out (by rw [HE.out]; decide) _ (Below.refl _ _)⟩
      · have hLf := LQ_leaf (t := t) hk8 hx hlf
        have hit : itm k qn (LQ t D k) = ⟨k, qn, ((evK d.lev qn).length : Int), d.lcl qn, skOf (evK d.lev qn)⟩ := by rw [hLf]; exact known_itm k d.lev d.lcl qn qb
        have HG : Hid (LgR w bs (10 + k * 2) (V k).p (V k).n (V k).c (MQ D k) (LQ t D k)) := h.lgr hd k (by omega)
        obtain ⟨fb, hfb⟩ : ∃ fb, d.lcl qn = fb := ⟨_, rfl⟩
        have HFB : Hid ((itm k qn (LQ t D k)).fin = fb) := by unfold Hid; rw [hit]; exact hfb
        have hks' : (key.size : Int) ≤ 20 := by omega
        have k0 : (0 : Int) ≤ (k : Int) := by omega
        have k1 : (k : Int) < 8 := by omega
        cases fb with
        | true =>
          have HE : Hid (ingE t wid D k at' key = 7) := by unfold Hid ingE; rw [if_pos h1, if_neg a0, if_neg a2, if_pos (by simp [hx, hqn, hfb])]
          clear h a0 q0 q1 hqn hit hLf hfb
          go_enter Try.func42, Try.ntmps42
          go_wp2_with (first | (go_at_call 56; refine (leafError_any _ _ t HT.out _ h8).mono ?_; rintro e wA ⟨rfl, rfl⟩; rw [h1]) | (go_at_call 64; refine (windowOf_any _ _ wid HC9.out w0 w1' _).mono ?_; rintro e wA ⟨rfl, rfl⟩; rw [HW.out]) | (go_at_call 65; refine (lIsFinal_any _ _ _ _ _ _ _ _ HG.out _ _).mono ?_; rintro e w3 ⟨rfl, hb3⟩; rw [HFB.out]))
          go_ret
          exact ⟨by rw [HE.out]; rfl, HSAME.out (by rw [HE.out]; decide) _ hb3⟩
        | false =>
          have HE : Hid (ingE t wid D k at' key = 0) := by unfold Hid ingE; rw [if_pos h1, if_neg a0, if_neg a2, if_neg (by simp [hx, hqn, hfb])]
          have HD : Hid (ingD t wid D k at' key v = D.set k { d with lev := d.lev ++ [⟨qn, key, v⟩] }) := by unfold Hid ingD; rw [if_pos HE.out]; simp [hx, hqn]
          have hdk := hd k d hx
          have hev := h.ev k d hx
          have HIT : Hid ((itm k qn (LQ t D k)).sk.Ok ∧ 0 ≤ (itm k qn (LQ t D k)).ver ∧ (itm k qn (LQ t D k)).ver ≤ 1000000000) := by
            unfold Hid; rw [hit]
            have h5 := evK_len d.lev qn
            refine ⟨skOf_ok _ fun e he => ?_, by simp, by simp; omega⟩
            have h6 := (List.mem_filter.1 he).1
            obtain ⟨i, hi⟩ := List.getElem?_of_mem h6
            exact hev.1 i e hi
          have hlen : (LQ t D k).length ≤ 1000 := by have := (h.good hd k).len; omega
          have HLf : Hid (LQ t D k = known k d.lev d.lcl) := hLf
          have HX : Hid (D[k]? = some d) := hx
          have HLF : Hid (isLf t k = true) := hlf
          clear h a0 q0 q1 hqn hit hLf hfb hx hev hdk hlf
          go_enter Try.func42, Try.ntmps42
          go_wp2_with (first | (go_at_call 56; refine (leafError_any _ _ t HT.out _ h8).mono ?_; rintro e wA ⟨rfl, hwA⟩; have hwA := hwA.symm; subst hwA; rw [h1]) | (go_at_call 64; refine (windowOf_any _ _ wid HC9.out w0 w1' _).mono ?_; rintro e wA ⟨rfl, hwA⟩; have hwA := hwA.symm; subst hwA; rw [HW.out]) | (go_at_call 65; refine (lIsFinal_any _ _ _ _ _ _ _ _ HG.out _ _).mono ?_; rintro e w3 ⟨rfl, hb3⟩; rw [HFB.out]))
          have S3 := HS.out.below hb3
          refine (lAdd_any w3 B0 bs (10 + k * 2) A _ (V k).p (V k).n (V k).c (MQ D k) (LQ t D k) k qn key v hks hv0 hv1 S3.main (S3.is.sl k (by omega)) (S3.is.mrk k (by omega)) (S3.ow k (by omega)) (S3.ne k (by omega)) (Nat.le_trans hB0 hb3.size) hlen HIT.out.1 HIT.out.2).mono ?_
          rintro e w6 ⟨rfl, s6, ho6, pf6⟩
          have Z : Hid (Chg SR w own B0 bs t wid (ingD t wid D k at' key v) w6) := by
            unfold Hid
            have hkD : k < D.length := (List.getElem?_eq_some_iff.1 HX.out).1
            have hset : (D.set k { d with lev := d.lev ++ [⟨qn, key, v⟩] })[k]? = some { d with lev := d.lev ++ [⟨qn, key, v⟩] } := List.getElem?_set_self hkD
            have he := HS.out.ev k d HX.out
            rw [HD.out]
            refine HS.out.put k (by omega) s6 (pf6.pre hb3) ?_ (fun r hr => ?_) (fun r hr hne => ?_) (by simpa using HS.out.ld) (fun j d' hj => ?_)
            · have e1 := known_add k d.lev d.lcl ⟨qn, key, v⟩ qn qb rfl
              rw [HLf.out] at ho6
              rw [LQ_leaf hk8 hset HLF.out, e1]
              exact ho6
            · by_cases e : r = k
              · subst e; rw [MQ_live _ r _ hk8 hset, MQ_live D r d hk8 HX.out]
              · by_cases e2 : r = 8 + k
                · subst e2; rw [MQ_kept _ k _ hset, MQ_kept D k d HX.out]
                · exact MQ_set D k _ r e e2
            · by_cases e2 : r = 8 + k
              · subst e2; rw [LQ_kept t _ k _ hset, LQ_kept t D k d HX.out]; rfl
              · exact LQ_set t D k _ r hne e2
            · by_cases e : k = j
              · subst e
                rw [hset] at hj; cases hj
                refine ⟨fun i ev hi => ?_, he.2⟩
                have hi' : (d.lev ++ [(⟨qn, key, v⟩ : Ev3)])[i]? = some ev := hi
                rcases Nat.lt_or_ge i d.lev.length with hlt | hge
                · rw [List.getElem?_append_left hlt] at hi'; exact he.1 i ev hi'
                · rw [List.getElem?_append_right hge] at hi'
                  have := List.mem_of_getElem? hi'
                  rw [List.mem_singleton] at this
                  rw [this]; exact ⟨by show (0 : Int) ≤ qn; omega, by show (qn : Int) < 20; omega, hks, hv0, hv1⟩
              · rw [List.getElem?_set_ne e] at hj; exact HS.out.ev j d' hj
          clear ho6 pf6 S3
          go_wp2
          go_ret
          exact ⟨by rw [HE.out]; rfl, Z.out⟩
  · have HE : Hid (ingE t wid D n at' key = wrg t n) := by unfold Hid ingE; rw [if_neg h1]
    clear h
    have hb : (wrg t n == 0) = false := by simpa using h1
    have hb2 : (wrg t n != 0) = true := by simpa using h1
    go_enter Try.func42, Try.ntmps42
    go_wp2_with (go_at_call 56; refine (leafError_any _ _ t HT.out _ h8).mono ?_; rintro e wA ⟨rfl, rfl⟩)
    go_ret
    exact ⟨by rw [HE.out]; rfl, HSAME.out (by rw [HE.out]; exact h1) _ (Below.refl _ _)⟩
end Go.Proofs.Ytpglbakcjihohab
