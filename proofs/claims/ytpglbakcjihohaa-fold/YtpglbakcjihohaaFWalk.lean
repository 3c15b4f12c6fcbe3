/-
  What 'fold' answers for every list of events: the sketch of them; nothing old in memory is turned.
-/
import Derived.Test.YtpglbakcjihohaaEq
import Derived.Test.YtpglbakcjihohaaFMath
import Derived.StillTailTactics
namespace Go.Proofs.Ytpglbakcjihohaa
open Go.RowKit
set_option maxRecDepth 100000

/-- The events l lie where the slice leads. -/
def Evs (w : World) (a : Option Addr) (l : List Ev) : Prop :=
  AllOk l ∧ (l = [] ∨ ∃ b off, a = some ⟨b, off, none⟩ ∧ b < w.heap.size ∧ ∀ i (h : i < l.length), w.cell? ⟨b, off + i * 2, none⟩ = some (.string l[i].key) ∧ w.cell? ⟨b, off + i * 2 + 1, none⟩ = some (.int .i32 l[i].v))
theorem Evs.below {w w' : World} {a : Option Addr} {l : List Ev} (h : Evs w a l) (hb : Below w.heap.size w w') : Evs w' a l := by
  refine ⟨h.1, ?_⟩
  rcases h.2 with h | ⟨b, off, ha, hlt, hc⟩
  · exact .inl h
  · refine .inr ⟨b, off, ha, Nat.lt_of_lt_of_le hlt hb.size, fun i hi => ?_⟩
    obtain ⟨c1, c2⟩ := hc i hi
    exact ⟨by rw [hb.cell (p := ⟨b, off + i * 2, none⟩) hlt]; exact c1, by rw [hb.cell (p := ⟨b, off + i * 2 + 1, none⟩) hlt]; exact c2⟩
theorem mixed : Try.prog.follows .mixedOrders = true := by kernel_rfl

section
variable {ops : Array Oper} {rest : List Oper} {o : Oper} {a : Act} {w : World} {Q : Act → Prop}
theorem still_load_sk (hw : Region.wanted o (yielded ops a.tmps) = true) (x : Operand) (ho : o.op = .load 27 x) (g : Nat) (hx : a.eval x = .pointer (some ⟨g, 0, none⟩)) (A : Array Value) (s : Sk) (hA : IsSk A s)
    (hg : w.heap[g]? = some (.cells A 27)) (h : wpStill Try.prog ops w Q rest (a.put o.dst (.agg A))) : wpStill Try.prog ops w Q (o :: rest) a :=
  wpStill_step fun _ hK => by
    rw [if_pos hw]
    unfold Oper.still execOp
    simp only [ho, hx, Instr.loadAt, Instr.sureAddr, Sem.run_bind, Sem.run_pure, Result.andThen_ok, run_loadVar_row w g _ _ A (0, 0) _ hg Try.underlying27 rfl (info_sk hA), Oper.stillUpon]
    exact ⟨trivial, hK _ h⟩
end

set_option maxHeartbeats 1000000 in
set_option maxRecDepth 100000 in
theorem fold_any (l : List Ev) (a : Option Addr) (n cap : Nat) (w : World) (hn : l.length = n) (he : Evs w a l) (hm : n ≤ maxLen) :
    Calls Try.prog 23 #[.slice a n cap] w fun e w' => ∃ M, e = .returned (.agg M) ∧ IsSk M (F l) ∧ Below w.heap.size w w' := by
  unfold maxLen at hm
  obtain ⟨hok, he⟩ := he
  rcases he with rfl | ⟨b, off, rfl, hlt, hcell⟩
  · obtain rfl : n = 0 := hn.symm
    clear hn
    go_enter Try.func23, Try.ntmps23
    go_wp2_with (first | (refine alloc_sk rfl rfl ?_; intro Z hZ) | (go_at_call 11; refine (tempty_any _).mono ?_; rintro e w1 ⟨E, rfl, hE, hb⟩; have gZ := keep hb (heap_alloc_new w _); have HZ := hZ.size; have HB := bnext (below_alloc _ _) hb; clear hb) | (refine store_sk_new rfl _ _ rfl E _ _ rfl rfl (by rfl) hE hZ ?_))
    refine wp_loop_once ?_
    go_wp2_with (first | (refine load_sk rfl _ rfl _ rfl _ _ hE (by exact heap_alloc_new _ _) ?_) | (refine store_sk rfl _ _ rfl E _ rfl rfl hE (by exact blk_old gZ) HZ ?_))
    exact bodyPost_ret (results_sk rfl _ _ _ E _ hE rfl (setRow_blk (blk_old gZ))) rfl ⟨E, rfl, hE, below_setRow _ (bnext HB (below_alloc _ _)) (Nat.le_refl _)⟩
  · go_enter Try.func23, Try.ntmps23
    go_wp2_with (first | (refine alloc_sk rfl rfl ?_; intro Z hZ) | (go_at_call 11; refine (tempty_any _).mono ?_; rintro e w1 ⟨E, rfl, hE, hb⟩; have gZ := keep hb (heap_alloc_new w _); have HZ := hZ.size; have HB := bnext (below_alloc _ _) hb; clear hb; obtain ⟨Y, hY⟩ : ∃ Y, Y = Z := ⟨_, rfl⟩; rw [← hY] at gZ HZ; clear hY hZ) | (refine store_sk_new rfl _ _ rfl E _ _ rfl rfl (by rfl) hE hZ ?_))
    have hlt1 := lt_of_blk gZ
    go_loopw [4] (fun i wr => ∃ (k : Nat) (M : Array Value), k ≤ n ∧ i = .int .i64 k ∧ IsSk M (F (l.take k)) ∧ Below w.heap.size w wr ∧ wr.heap[w.heap.size]? = some (.cells Y 27) ∧ wr.heap[w1.heap.size]? = some (.cells M 27)) (fun i _ => n - (intOf i).toNat)
    case atStart => exact ⟨0, E, by omega, rfl, hE, bnext HB (below_alloc _ _), blk_old gZ, heap_alloc_new _ _⟩
    case round =>
      clear hE
      obtain ⟨k, M, hk, rfl, hM, hB, gY, gM⟩ := hrel
      have okk := F_ok _ (hok.take k)
      by_cases hlk : k < n
      · obtain ⟨c1, c2⟩ := hcell k (by omega)
        have hev := hok l[k] (List.getElem_mem (by omega))
        have hstep := F_take l k (by omega)
        obtain ⟨⟨key, v⟩, hx⟩ : ∃ e : Ev, e = l[k] := ⟨_, rfl⟩
        rw [← hx] at c1 c2 hev hstep
        clear hx
        have d1 : wr.cell? ⟨b, off + k * 2, none⟩ = some (.string key) := by rw [hB.cell (p := ⟨b, off + k * 2, none⟩) hlt]; exact c1
        have d2 : wr.cell? ⟨b, off + k * 2 + 1, none⟩ = some (.int .i32 v) := by rw [hB.cell (p := ⟨b, off + k * 2 + 1, none⟩) hlt]; exact c2
        have HS : Hid (F (l.take (k + 1)) = mrg (F (l.take k)) (one key.data.toList v)) := hstep
        have l0 := hev.len
        have v0 := hev.v0
        have v1 := hev.v1
        clear c1 c2 hev hstep
        go_wp2
        refine wp_region_still_tail 11 mixed (by kernel_rfl) ?_
        simp only [List.take_succ_cons, List.take_zero, List.drop_succ_cons, List.drop_zero]
        refine still_load_sk (by rfl) _ rfl _ rfl M _ hM (by exact gM) ?_
        repeat still_step
        refine wpStill_nil ?_
        go_wp2_with fail
        refine (tadd_any _ M hM okk key v _ l0 v0 v1).mono ?_
        rintro e w2 ⟨R, rfl, hR, hb⟩
        have hb' : Below wr.heap.size wr w2 := ⟨hb.os, hb.tape, hb.output, hb.size, hb.block⟩
        replace gY := keep hb' gY
        replace gM := keep hb' gM
        replace hB := bnext hB hb'
        clear hb hb'
        rw [← HS.out] at hR
        go_wp2_with (refine store_sk rfl _ _ rfl R _ rfl rfl hR (by exact gM) hM.size ?_)
        go_roundw
        case rel => exact ⟨k + 1, R, by omega, by go_num, hR, below_setRow _ hB (Nat.le_of_lt hlt1), setRow_oth (by omega) gY, setRow_blk gM⟩
        case measure => simp [intOf]; omega
      · obtain rfl : k = n := by omega
        rw [List.take_of_length_le (by omega)] at hM
        go_wp2_with (first | (refine load_sk rfl _ rfl _ rfl M _ hM (by exact gM) ?_) | (refine store_sk rfl _ _ rfl M _ rfl rfl hM (by exact gY) HZ ?_))
        exact bodyPost_ret (results_sk rfl _ _ _ M _ hM rfl (setRow_blk gY)) rfl ⟨M, rfl, hM, below_setRow _ hB (Nat.le_refl _)⟩
end Go.Proofs.Ytpglbakcjihohaa
