/-
  Own texts, laid together: 'asks': what is shown is what the document shows. 'step': Ingest, Advance, Sync, Crash of both stores; the rest by 'asks', 'sends', 'brings'.
-/
import Derived.Test.YtpglbakcjihohaaGreatRows
import Derived.Test.YtpglbakcjihohaaGreatPart5
set_option linter.unusedSimpArgs false
set_option linter.unusedVariables false
set_option linter.deprecated false
/-! 'asks': what is shown is what the document shows. -/
namespace Go.Proofs.YtpglbakcjihohaaGreat
open Go.RowKit
set_option maxRecDepth 100000

set_option maxHeartbeats 8000000 in
theorem asks_any0 (SR : SRT) (R : PR SR) (w : World) (own : Ghost) (B0 bg bs bw : Nat) (t : List Int) (wid : Int) (m : Nat) (hx : GX SR B0 bg bs bw t wid m w own) (hm : m < 100000000) (hfree : ∀ k, w.heap.size ≤ k → own k = .free) (kind a b c v fr : Int) (key : ByteArray) (p : Option Addr) (pn pc : Nat) (ha : fitsI a) (hb : fitsI b) (hc : fitsI c) :
    Calls Tryz.prog 21 #[.pointer (some ⟨bg, 0, none⟩), .agg #[.int .i64 kind, .int .i64 a, .int .i64 b, .int .i64 c, .string key, .int .i32 v, .int .i64 fr, .slice p pn pc]] w fun e w' => e = .returned (.bool true) ∧ Nx SR B0 bg bs bw t wid (m + 1) w own w' := by
  obtain ⟨D, vl, vt, vd, L, T, PK, g⟩ := hx
  have HR : Hid (PR SR) := R
  have HG : Hid (GD SR w own B0 bg bs bw t wid m D vl vt vd L T PK) := g
  have hbg := lt_of_blk g.gb.game
  have HFR : Hid (∀ k, w.heap.size ≤ k → own k = .free) := hfree
  clear R g hfree
  by_cases hk : kind = 2
  · subst hk
    go_enter Tryz.func21, Tryz.ntmps21
    go_upto_region 2 with fail
    obtain ⟨bx, hbx⟩ : ∃ bx, bx = w.heap.size := ⟨_, rfl⟩
    obtain ⟨w1, hw1⟩ : ∃ w1, w1 = w.alloc (.cells #[.int .i64 2, .int .i64 a, .int .i64 b, .int .i64 c, .string key, .int .i32 v, .int .i64 fr, .slice p pn pc] 33) := ⟨_, rfl⟩
    have HB1 : Hid (Below w.heap.size w w1) := by unfold Hid; rw [hw1]; exact below_alloc _ _
    have HBX : Hid (w1.heap[bx]? = some (.cells #[.int .i64 2, .int .i64 a, .int .i64 b, .int .i64 c, .string key, .int .i32 v, .int .i64 fr, .slice p pn pc] 33)) := by unfold Hid; rw [hw1, hbx]; exact heap_alloc_new _ _
    have HG1 : Hid (GD SR w1 own B0 bg bs bw t wid m D vl vt vd L T PK) := HG.out.below HR.out HB1.out
    have c0 : w1.cell? ⟨bg, 0, none⟩ = some (.pointer (some ⟨bs, 0, none⟩)) := by rw [cell_of_row _ _ _ _ _ _ HG1.out.gb.game]; rfl
    have c1 : w1.cell? ⟨bg, 1, none⟩ = some (.pointer (some ⟨bw, 0, none⟩)) := by rw [cell_of_row _ _ _ _ _ _ HG1.out.gb.game]; rfl
    have x1 : w1.cell? ⟨bx, 1, none⟩ = some (.int .i64 a) := by rw [cell_of_row _ _ _ _ _ _ HBX.out]; rfl
    have x2 : w1.cell? ⟨bx, 2, none⟩ = some (.int .i64 b) := by rw [cell_of_row _ _ _ _ _ _ HBX.out]; rfl
    have x3 : w1.cell? ⟨bx, 3, none⟩ = some (.int .i64 c) := by rw [cell_of_row _ _ _ _ _ _ HBX.out]; rfl
    have HBXE : Hid (bx = w.heap.size) := hbx
    rw [← hw1, ← hbx]
    clear hw1 hbx HBX
    go_cut [5, 6] (fun v5 v6 wx => ∃ (ga : Nat) (A : Array Value), v5 = .pointer (some ⟨ga, 0, none⟩) ∧ v6 = .int .i64 (askErr t a b c) ∧ IsAn A (askAn t (lvAt t D a) a b c) ∧ wx.heap[ga]? = some (.cells A 83) ∧ w1.heap.size ≤ ga ∧ Below w1.heap.size w1 wx)
    case first =>
      have hT0 : (fun w' : World => w'.cell? ⟨bg, 0, none⟩ = some (.pointer (some ⟨bs, 0, none⟩)) ∧ w'.cell? ⟨bx, 1, none⟩ = some (.int .i64 a) ∧ w'.cell? ⟨bx, 2, none⟩ = some (.int .i64 b) ∧ w'.cell? ⟨bx, 3, none⟩ = some (.int .i64 c)) w1.drew := ⟨c0, x1, x2, x3⟩
      refine wp_region_held (S := fun w' : World => w'.cell? ⟨bg, 0, none⟩ = some (.pointer (some ⟨bs, 0, none⟩)) ∧ w'.cell? ⟨bx, 1, none⟩ = some (.int .i64 a) ∧ w'.cell? ⟨bx, 2, none⟩ = some (.int .i64 b) ∧ w'.cell? ⟨bx, 3, none⟩ = some (.int .i64 c)) mixed ?_
      refine wpAnyH_take (i := 0) (v := (.pointer (some ⟨bg, 0, none⟩))) rfl (by kernel_rfl) (by kernel_rfl) (by kernel_rfl) (fun _ _ _ h => h) (Or.inl ⟨by rfl, fun wx hx => by go_simp⟩) hT0 ?_
      try dsimp only
      try simp only [Act.put, List.getElem_toArray, List.getElem_cons_succ, List.getElem_cons_zero, List.setIfInBounds_toArray, List.set_cons_zero, List.set_cons_succ]
      refine wpAnyH_take (i := 1) (v := (.pointer (some ⟨bg, 0, none⟩))) rfl (by kernel_rfl) (by kernel_rfl) (by kernel_rfl) (fun _ _ _ h => h) (Or.inl ⟨by rfl, fun wx hx => by go_simp⟩) hT0 ?_
      try dsimp only
      try simp only [Act.put, List.getElem_toArray, List.getElem_cons_succ, List.getElem_cons_zero, List.setIfInBounds_toArray, List.set_cons_zero, List.set_cons_succ]
      refine wpAnyH_take (i := 2) (v := (.pointer (some ⟨bg, 0, none⟩))) rfl (by kernel_rfl) (by kernel_rfl) (by kernel_rfl) (fun _ _ _ h => h) (Or.inl ⟨by rfl, fun wx hx => by go_simp⟩) hT0 ?_
      try dsimp only
      try simp only [Act.put, List.getElem_toArray, List.getElem_cons_succ, List.getElem_cons_zero, List.setIfInBounds_toArray, List.set_cons_zero, List.set_cons_succ]
      refine wpAnyH_take (i := 3) (v := (.pointer (some ⟨bs, 0, none⟩))) rfl (by kernel_rfl) (by kernel_rfl) (by kernel_rfl) (fun _ _ _ h => h) (Or.inl ⟨by rfl, fun wx hx => by have hx1 := hx.1; go_simp⟩) hT0 ?_
      try dsimp only
      try simp only [Act.put, List.getElem_toArray, List.getElem_cons_succ, List.getElem_cons_zero, List.setIfInBounds_toArray, List.set_cons_zero, List.set_cons_succ]
      refine wpAnyH_take (i := 4) (v := (.pointer (some ⟨bx, 1, none⟩))) rfl (by kernel_rfl) (by kernel_rfl) (by kernel_rfl) (fun _ _ _ h => h) (Or.inl ⟨by rfl, fun wx hx => by go_simp⟩) hT0 ?_
      try dsimp only
      try simp only [Act.put, List.getElem_toArray, List.getElem_cons_succ, List.getElem_cons_zero, List.setIfInBounds_toArray, List.set_cons_zero, List.set_cons_succ]
      refine wpAnyH_take (i := 5) (v := (.int .i64 a)) rfl (by kernel_rfl) (by kernel_rfl) (by kernel_rfl) (fun _ _ _ h => h) (Or.inl ⟨by rfl, fun wx hx => by have hx1 := hx.2.1; go_simp⟩) hT0 ?_
      try dsimp only
      try simp only [Act.put, List.getElem_toArray, List.getElem_cons_succ, List.getElem_cons_zero, List.setIfInBounds_toArray, List.set_cons_zero, List.set_cons_succ]
      refine wpAnyH_take (i := 6) (v := (.pointer (some ⟨bx, 2, none⟩))) rfl (by kernel_rfl) (by kernel_rfl) (by kernel_rfl) (fun _ _ _ h => h) (Or.inl ⟨by rfl, fun wx hx => by go_simp⟩) hT0 ?_
      try dsimp only
      try simp only [Act.put, List.getElem_toArray, List.getElem_cons_succ, List.getElem_cons_zero, List.setIfInBounds_toArray, List.set_cons_zero, List.set_cons_succ]
      refine wpAnyH_take (i := 7) (v := (.int .i64 b)) rfl (by kernel_rfl) (by kernel_rfl) (by kernel_rfl) (fun _ _ _ h => h) (Or.inl ⟨by rfl, fun wx hx => by have hx1 := hx.2.2.1; go_simp⟩) hT0 ?_
      try dsimp only
      try simp only [Act.put, List.getElem_toArray, List.getElem_cons_succ, List.getElem_cons_zero, List.setIfInBounds_toArray, List.set_cons_zero, List.set_cons_succ]
      refine wpAnyH_take (i := 8) (v := (.pointer (some ⟨bx, 3, none⟩))) rfl (by kernel_rfl) (by kernel_rfl) (by kernel_rfl) (fun _ _ _ h => h) (Or.inl ⟨by rfl, fun wx hx => by go_simp⟩) hT0 ?_
      try dsimp only
      try simp only [Act.put, List.getElem_toArray, List.getElem_cons_succ, List.getElem_cons_zero, List.setIfInBounds_toArray, List.set_cons_zero, List.set_cons_succ]
      refine wpAnyH_take (i := 9) (v := (.int .i64 c)) rfl (by kernel_rfl) (by kernel_rfl) (by kernel_rfl) (fun _ _ _ h => h) (Or.inl ⟨by rfl, fun wx hx => by have hx1 := hx.2.2.2; go_simp⟩) hT0 ?_
      try dsimp only
      try simp only [Act.put, List.getElem_toArray, List.getElem_cons_succ, List.getElem_cons_zero, List.setIfInBounds_toArray, List.set_cons_zero, List.set_cons_succ]
      refine wpAnyH_all (rs := [10, 14]) (by kernel_rfl) (by simp) ?_
      intro jj hjj
      simp only [List.mem_cons, List.not_mem_nil, or_false] at hjj
      rcases hjj with rfl | rfl
      · skip
        refine wpOp_of_wp rfl rfl ?_
        go_simp
        refine (HR.out.ask w1.drew own B0 bs t wid D (HR.out.below (w' := w1.drew) HG1.out.st below_drew) (HG1.out.di.mono (by omega)) a b c ha hb hc).mono ?_
        rintro e w5 ⟨A, rfl, hA, hb5⟩
        replace hb5 : Below w1.heap.size w1 w5 := below_drawn' hb5
        have hT1 : (fun w' : World => w'.cell? ⟨bg, 0, none⟩ = some (.pointer (some ⟨bs, 0, none⟩)) ∧ w'.cell? ⟨bx, 1, none⟩ = some (.int .i64 a) ∧ w'.cell? ⟨bx, 2, none⟩ = some (.int .i64 b) ∧ w'.cell? ⟨bx, 3, none⟩ = some (.int .i64 c)) w5 := ⟨cell_keep (w := w1) (w' := w5) hb5 hT0.1, cell_keep (w := w1) (w' := w5) hb5 hT0.2.1, cell_keep (w := w1) (w' := w5) hb5 hT0.2.2.1, cell_keep (w := w1) (w' := w5) hb5 hT0.2.2.2⟩
        refine ⟨hT1, ?_⟩
        try dsimp only
        try simp only [Act.put, List.getElem_toArray, List.getElem_cons_succ, List.getElem_cons_zero, List.setIfInBounds_toArray, List.set_cons_zero, List.set_cons_succ]
        refine wpAnyH_take (i := 11) (v := (.tuple #[.agg A, .int .i64 (askErr t a b c)])) rfl (by kernel_rfl) (by kernel_rfl) (by kernel_rfl) (fun _ _ _ h => h) (Or.inl ⟨by rfl, fun wx hx => by go_simp⟩) hT1 ?_
        try dsimp only
        try simp only [Act.put, List.getElem_toArray, List.getElem_cons_succ, List.getElem_cons_zero, List.setIfInBounds_toArray, List.set_cons_zero, List.set_cons_succ]
        refine wpAnyH_take (i := 12) (v := (.agg A)) rfl (by kernel_rfl) (by kernel_rfl) (by kernel_rfl) (fun _ _ _ h => h) (Or.inl ⟨by rfl, fun wx hx => by go_simp⟩) hT1 ?_
        try dsimp only
        try simp only [Act.put, List.getElem_toArray, List.getElem_cons_succ, List.getElem_cons_zero, List.setIfInBounds_toArray, List.set_cons_zero, List.set_cons_succ]
        refine wpAnyH_take (i := 13) (v := (.int .i64 (askErr t a b c))) rfl (by kernel_rfl) (by kernel_rfl) (by kernel_rfl) (fun _ _ _ h => h) (Or.inl ⟨by rfl, fun wx hx => by go_simp⟩) hT1 ?_
        try dsimp only
        try simp only [Act.put, List.getElem_toArray, List.getElem_cons_succ, List.getElem_cons_zero, List.setIfInBounds_toArray, List.set_cons_zero, List.set_cons_succ]
        refine wpAnyH_all (rs := [14]) (by kernel_rfl) (by simp) ?_
        intro jj hjj
        simp only [List.mem_cons, List.not_mem_nil, or_false] at hjj
        subst hjj
        refine wpOp_alloc_z rfl rfl _ rfl _ zero_an ?_
        have hbal : Below w1.heap.size w1 (w5.alloc (.cells An.zero.cells.toArray 83)) := bnext hb5 (below_alloc _ _)
        have hT2 : (fun w' : World => w'.cell? ⟨bg, 0, none⟩ = some (.pointer (some ⟨bs, 0, none⟩)) ∧ w'.cell? ⟨bx, 1, none⟩ = some (.int .i64 a) ∧ w'.cell? ⟨bx, 2, none⟩ = some (.int .i64 b) ∧ w'.cell? ⟨bx, 3, none⟩ = some (.int .i64 c)) (w5.alloc (.cells An.zero.cells.toArray 83)) := ⟨cell_keep (w := w1) hbal hT0.1, cell_keep (w := w1) hbal hT0.2.1, cell_keep (w := w1) hbal hT0.2.2.1, cell_keep (w := w1) hbal hT0.2.2.2⟩
        refine ⟨hT2, ?_⟩
        try dsimp only
        try simp only [Act.put, List.getElem_toArray, List.getElem_cons_succ, List.getElem_cons_zero, List.setIfInBounds_toArray, List.set_cons_zero, List.set_cons_succ]
        refine wpAnyH_all (rs := [15]) (by kernel_rfl) (by simp) ?_
        intro jj hjj
        simp only [List.mem_cons, List.not_mem_nil, or_false] at hjj
        subst hjj
        have G5 := heap_alloc_new w5 (.cells An.zero.cells.toArray 83)
        refine wpOp_store_row rfl rfl _ _ _ rfl A rfl rfl G5 (info_an hA) (by rw [hA.size]; rfl) hA.one ?_
        have hsb := hb5.size
        have hbst : Below w1.heap.size w1 ((w5.alloc (.cells An.zero.cells.toArray 83)).setRow w5.heap.size A) := below_setRow _ hbal hsb
        have hT3 : (fun w' : World => w'.cell? ⟨bg, 0, none⟩ = some (.pointer (some ⟨bs, 0, none⟩)) ∧ w'.cell? ⟨bx, 1, none⟩ = some (.int .i64 a) ∧ w'.cell? ⟨bx, 2, none⟩ = some (.int .i64 b) ∧ w'.cell? ⟨bx, 3, none⟩ = some (.int .i64 c)) ((w5.alloc (.cells An.zero.cells.toArray 83)).setRow w5.heap.size A) := ⟨cell_keep (w := w1) hbst hT0.1, cell_keep (w := w1) hbst hT0.2.1, cell_keep (w := w1) hbst hT0.2.2.1, cell_keep (w := w1) hbst hT0.2.2.2⟩
        refine ⟨hT3, ?_⟩
        try dsimp only
        try simp only [Act.put, List.getElem_toArray, List.getElem_cons_succ, List.getElem_cons_zero, List.setIfInBounds_toArray, List.set_cons_zero, List.set_cons_succ]
        refine wpAnyH_take (i := 16) (v := (.int .i64 (askErr t a b c))) rfl (by kernel_rfl) (by kernel_rfl) (by kernel_rfl) (fun _ _ _ h => h) (Or.inl ⟨by rfl, fun wx hx => by go_simp⟩) hT3 ?_
        try dsimp only
        try simp only [Act.put, List.getElem_toArray, List.getElem_cons_succ, List.getElem_cons_zero, List.setIfInBounds_toArray, List.set_cons_zero, List.set_cons_succ]
        refine wpAnyH_done (by kernel_rfl) ?_ _
        have GZ := setRow_blk (A := A) G5
        clear hT0 hT1 hT2 hT3 hbal G5 hb5
        go_wp2_with fail
        go_meet
        exact ⟨w5.heap.size, A, rfl, rfl, hA, GZ, hsb, hbst⟩
      · skip
        refine wpOp_alloc_z rfl rfl _ rfl _ zero_an ?_
        have hbal : Below w1.heap.size w1 (w1.drew.alloc (.cells An.zero.cells.toArray 83)) := below_drawn' (below_alloc w1.drew _)
        have hT1 : (fun w' : World => w'.cell? ⟨bg, 0, none⟩ = some (.pointer (some ⟨bs, 0, none⟩)) ∧ w'.cell? ⟨bx, 1, none⟩ = some (.int .i64 a) ∧ w'.cell? ⟨bx, 2, none⟩ = some (.int .i64 b) ∧ w'.cell? ⟨bx, 3, none⟩ = some (.int .i64 c)) (w1.drew.alloc (.cells An.zero.cells.toArray 83)) := ⟨cell_keep (w := w1) hbal hT0.1, cell_keep (w := w1) hbal hT0.2.1, cell_keep (w := w1) hbal hT0.2.2.1, cell_keep (w := w1) hbal hT0.2.2.2⟩
        refine ⟨hT1, ?_⟩
        try dsimp only
        try simp only [Act.put, List.getElem_toArray, List.getElem_cons_succ, List.getElem_cons_zero, List.setIfInBounds_toArray, List.set_cons_zero, List.set_cons_succ]
        refine wpAnyH_all (rs := [10]) (by kernel_rfl) (by simp) ?_
        intro jj hjj
        simp only [List.mem_cons, List.not_mem_nil, or_false] at hjj
        subst hjj
        refine wpOp_of_wp rfl rfl ?_
        go_simp
        refine (HR.out.ask _ own B0 bs t wid D (HR.out.below (w' := _) HG1.out.st hbal) (HG1.out.di.mono (by omega)) a b c ha hb hc).mono ?_
        rintro e w5 ⟨A, rfl, hA, hb5⟩
        have hbX : Below w1.heap.size w1 w5 := bnext hbal hb5
        have hT2 : (fun w' : World => w'.cell? ⟨bg, 0, none⟩ = some (.pointer (some ⟨bs, 0, none⟩)) ∧ w'.cell? ⟨bx, 1, none⟩ = some (.int .i64 a) ∧ w'.cell? ⟨bx, 2, none⟩ = some (.int .i64 b) ∧ w'.cell? ⟨bx, 3, none⟩ = some (.int .i64 c)) w5 := ⟨cell_keep (w := w1) hbX hT0.1, cell_keep (w := w1) hbX hT0.2.1, cell_keep (w := w1) hbX hT0.2.2.1, cell_keep (w := w1) hbX hT0.2.2.2⟩
        refine ⟨hT2, ?_⟩
        try dsimp only
        try simp only [Act.put, List.getElem_toArray, List.getElem_cons_succ, List.getElem_cons_zero, List.setIfInBounds_toArray, List.set_cons_zero, List.set_cons_succ]
        refine wpAnyH_take (i := 11) (v := (.tuple #[.agg A, .int .i64 (askErr t a b c)])) rfl (by kernel_rfl) (by kernel_rfl) (by kernel_rfl) (fun _ _ _ h => h) (Or.inl ⟨by rfl, fun wx hx => by go_simp⟩) hT2 ?_
        try dsimp only
        try simp only [Act.put, List.getElem_toArray, List.getElem_cons_succ, List.getElem_cons_zero, List.setIfInBounds_toArray, List.set_cons_zero, List.set_cons_succ]
        refine wpAnyH_take (i := 12) (v := (.agg A)) rfl (by kernel_rfl) (by kernel_rfl) (by kernel_rfl) (fun _ _ _ h => h) (Or.inl ⟨by rfl, fun wx hx => by go_simp⟩) hT2 ?_
        try dsimp only
        try simp only [Act.put, List.getElem_toArray, List.getElem_cons_succ, List.getElem_cons_zero, List.setIfInBounds_toArray, List.set_cons_zero, List.set_cons_succ]
        refine wpAnyH_take (i := 13) (v := (.int .i64 (askErr t a b c))) rfl (by kernel_rfl) (by kernel_rfl) (by kernel_rfl) (fun _ _ _ h => h) (Or.inl ⟨by rfl, fun wx hx => by go_simp⟩) hT2 ?_
        try dsimp only
        try simp only [Act.put, List.getElem_toArray, List.getElem_cons_succ, List.getElem_cons_zero, List.setIfInBounds_toArray, List.set_cons_zero, List.set_cons_succ]
        refine wpAnyH_all (rs := [15]) (by kernel_rfl) (by simp) ?_
        intro jj hjj
        simp only [List.mem_cons, List.not_mem_nil, or_false] at hjj
        subst hjj
        have G5 := keep hb5 (heap_alloc_new w1.drew (.cells An.zero.cells.toArray 83))
        refine wpOp_store_row rfl rfl _ _ _ rfl A rfl rfl G5 (info_an hA) (by rw [hA.size]; rfl) hA.one ?_
        have hbst : Below w1.heap.size w1 (w5.setRow w1.heap.size A) := below_setRow _ hbX (Nat.le_refl _)
        have hT3 : (fun w' : World => w'.cell? ⟨bg, 0, none⟩ = some (.pointer (some ⟨bs, 0, none⟩)) ∧ w'.cell? ⟨bx, 1, none⟩ = some (.int .i64 a) ∧ w'.cell? ⟨bx, 2, none⟩ = some (.int .i64 b) ∧ w'.cell? ⟨bx, 3, none⟩ = some (.int .i64 c)) (w5.setRow w1.heap.size A) := ⟨cell_keep (w := w1) hbst hT0.1, cell_keep (w := w1) hbst hT0.2.1, cell_keep (w := w1) hbst hT0.2.2.1, cell_keep (w := w1) hbst hT0.2.2.2⟩
        refine ⟨hT3, ?_⟩
        try dsimp only
        try simp only [Act.put, List.getElem_toArray, List.getElem_cons_succ, List.getElem_cons_zero, List.setIfInBounds_toArray, List.set_cons_zero, List.set_cons_succ]
        refine wpAnyH_take (i := 16) (v := (.int .i64 (askErr t a b c))) rfl (by kernel_rfl) (by kernel_rfl) (by kernel_rfl) (fun _ _ _ h => h) (Or.inl ⟨by rfl, fun wx hx => by go_simp⟩) hT3 ?_
        try dsimp only
        try simp only [Act.put, List.getElem_toArray, List.getElem_cons_succ, List.getElem_cons_zero, List.setIfInBounds_toArray, List.set_cons_zero, List.set_cons_succ]
        refine wpAnyH_done (by kernel_rfl) ?_ _
        have GZ := setRow_blk (A := A) G5
        clear hT0 hT1 hT2 hT3 hbal G5 hb5 hbX
        go_wp2_with fail
        go_meet
        exact ⟨w1.heap.size, A, rfl, rfl, hA, GZ, Nat.le_refl _, hbst⟩
    case rest =>
      obtain ⟨ga, A, rfl, rfl, hA, gA, hga, hbA⟩ := hcut
      rename World => wc
      have HA : Hid (IsAn A (askAn t (lvAt t D a) a b c)) := hA
      have GA : Hid (wc.heap[ga]? = some (.cells A 83)) := gA
      have HBA : Hid (Below w1.heap.size w1 wc) := hbA
      clear hA gA hbA
      go_upto_region 3 with fail
      obtain ⟨xt, xn, C, W⟩ := (HG1.out.below HR.out HBA.out).wd
      have HWC : Hid (WRep wc own B0 bw t wid D xt xn C) := W
      have d1 : wc.cell? ⟨bg, 1, none⟩ = some (.pointer (some ⟨bw, 0, none⟩)) := cell_keep HBA.out c1
      have xx1 : wc.cell? ⟨bx, 1, none⟩ = some (.int .i64 a) := cell_keep HBA.out x1
      have xx2 : wc.cell? ⟨bx, 2, none⟩ = some (.int .i64 b) := cell_keep HBA.out x2
      have xx3 : wc.cell? ⟨bx, 3, none⟩ = some (.int .i64 c) := cell_keep HBA.out x3
      clear W c0 c1 x1 x2 x3
      go_cut [7, 8] (fun v5 v6 wx => ∃ (ga : Nat) (A : Array Value), v5 = .pointer (some ⟨ga, 0, none⟩) ∧ v6 = .int .i64 (askErr t a b c) ∧ IsAn A (askAn t (lvAt t D a) a b c) ∧ wx.heap[ga]? = some (.cells A 83) ∧ wc.heap.size ≤ ga ∧ Below wc.heap.size wc wx)
      case first =>
        have hT0 : (fun w' : World => w'.cell? ⟨bg, 1, none⟩ = some (.pointer (some ⟨bw, 0, none⟩)) ∧ w'.cell? ⟨bx, 1, none⟩ = some (.int .i64 a) ∧ w'.cell? ⟨bx, 2, none⟩ = some (.int .i64 b) ∧ w'.cell? ⟨bx, 3, none⟩ = some (.int .i64 c)) wc.drew := ⟨d1, xx1, xx2, xx3⟩
        refine wp_region_held (S := fun w' : World => w'.cell? ⟨bg, 1, none⟩ = some (.pointer (some ⟨bw, 0, none⟩)) ∧ w'.cell? ⟨bx, 1, none⟩ = some (.int .i64 a) ∧ w'.cell? ⟨bx, 2, none⟩ = some (.int .i64 b) ∧ w'.cell? ⟨bx, 3, none⟩ = some (.int .i64 c)) mixed ?_
        refine wpAnyH_take (i := 0) (v := (.pointer (some ⟨bg, 0, none⟩))) rfl (by kernel_rfl) (by kernel_rfl) (by kernel_rfl) (fun _ _ _ h => h) (Or.inl ⟨by rfl, fun wx hx => by go_simp⟩) hT0 ?_
        try dsimp only
        try simp only [Act.put, List.getElem_toArray, List.getElem_cons_succ, List.getElem_cons_zero, List.setIfInBounds_toArray, List.set_cons_zero, List.set_cons_succ]
        refine wpAnyH_take (i := 1) (v := (.pointer (some ⟨bg, 0, none⟩))) rfl (by kernel_rfl) (by kernel_rfl) (by kernel_rfl) (fun _ _ _ h => h) (Or.inl ⟨by rfl, fun wx hx => by go_simp⟩) hT0 ?_
        try dsimp only
        try simp only [Act.put, List.getElem_toArray, List.getElem_cons_succ, List.getElem_cons_zero, List.setIfInBounds_toArray, List.set_cons_zero, List.set_cons_succ]
        refine wpAnyH_take (i := 2) (v := (.pointer (some ⟨bg, 1, none⟩))) rfl (by kernel_rfl) (by kernel_rfl) (by kernel_rfl) (fun _ _ _ h => h) (Or.inl ⟨by rfl, fun wx hx => by go_simp⟩) hT0 ?_
        try dsimp only
        try simp only [Act.put, List.getElem_toArray, List.getElem_cons_succ, List.getElem_cons_zero, List.setIfInBounds_toArray, List.set_cons_zero, List.set_cons_succ]
        refine wpAnyH_take (i := 3) (v := (.pointer (some ⟨bw, 0, none⟩))) rfl (by kernel_rfl) (by kernel_rfl) (by kernel_rfl) (fun _ _ _ h => h) (Or.inl ⟨by rfl, fun wx hx => by have hx1 := hx.1; go_simp⟩) hT0 ?_
        try dsimp only
        try simp only [Act.put, List.getElem_toArray, List.getElem_cons_succ, List.getElem_cons_zero, List.setIfInBounds_toArray, List.set_cons_zero, List.set_cons_succ]
        refine wpAnyH_take (i := 4) (v := (.pointer (some ⟨bx, 1, none⟩))) rfl (by kernel_rfl) (by kernel_rfl) (by kernel_rfl) (fun _ _ _ h => h) (Or.inl ⟨by rfl, fun wx hx => by go_simp⟩) hT0 ?_
        try dsimp only
        try simp only [Act.put, List.getElem_toArray, List.getElem_cons_succ, List.getElem_cons_zero, List.setIfInBounds_toArray, List.set_cons_zero, List.set_cons_succ]
        refine wpAnyH_take (i := 5) (v := (.int .i64 a)) rfl (by kernel_rfl) (by kernel_rfl) (by kernel_rfl) (fun _ _ _ h => h) (Or.inl ⟨by rfl, fun wx hx => by have hx1 := hx.2.1; go_simp⟩) hT0 ?_
        try dsimp only
        try simp only [Act.put, List.getElem_toArray, List.getElem_cons_succ, List.getElem_cons_zero, List.setIfInBounds_toArray, List.set_cons_zero, List.set_cons_succ]
        refine wpAnyH_take (i := 6) (v := (.pointer (some ⟨bx, 2, none⟩))) rfl (by kernel_rfl) (by kernel_rfl) (by kernel_rfl) (fun _ _ _ h => h) (Or.inl ⟨by rfl, fun wx hx => by go_simp⟩) hT0 ?_
        try dsimp only
        try simp only [Act.put, List.getElem_toArray, List.getElem_cons_succ, List.getElem_cons_zero, List.setIfInBounds_toArray, List.set_cons_zero, List.set_cons_succ]
        refine wpAnyH_take (i := 7) (v := (.int .i64 b)) rfl (by kernel_rfl) (by kernel_rfl) (by kernel_rfl) (fun _ _ _ h => h) (Or.inl ⟨by rfl, fun wx hx => by have hx1 := hx.2.2.1; go_simp⟩) hT0 ?_
        try dsimp only
        try simp only [Act.put, List.getElem_toArray, List.getElem_cons_succ, List.getElem_cons_zero, List.setIfInBounds_toArray, List.set_cons_zero, List.set_cons_succ]
        refine wpAnyH_take (i := 8) (v := (.pointer (some ⟨bx, 3, none⟩))) rfl (by kernel_rfl) (by kernel_rfl) (by kernel_rfl) (fun _ _ _ h => h) (Or.inl ⟨by rfl, fun wx hx => by go_simp⟩) hT0 ?_
        try dsimp only
        try simp only [Act.put, List.getElem_toArray, List.getElem_cons_succ, List.getElem_cons_zero, List.setIfInBounds_toArray, List.set_cons_zero, List.set_cons_succ]
        refine wpAnyH_take (i := 9) (v := (.int .i64 c)) rfl (by kernel_rfl) (by kernel_rfl) (by kernel_rfl) (fun _ _ _ h => h) (Or.inl ⟨by rfl, fun wx hx => by have hx1 := hx.2.2.2; go_simp⟩) hT0 ?_
        try dsimp only
        try simp only [Act.put, List.getElem_toArray, List.getElem_cons_succ, List.getElem_cons_zero, List.setIfInBounds_toArray, List.set_cons_zero, List.set_cons_succ]
        refine wpAnyH_all (rs := [10, 14]) (by kernel_rfl) (by simp) ?_
        intro jj hjj
        simp only [List.mem_cons, List.not_mem_nil, or_false] at hjj
        rcases hjj with rfl | rfl
        · skip
          refine wpOp_of_wp rfl rfl ?_
          go_simp
          refine (rAsk_any wc.drew own B0 bw t wid D _ _ _ (HWC.out.below (w' := wc.drew) below_drew) a b c (HG.out.di.lev (by omega))).mono ?_
          rintro e w5 ⟨A, rfl, hA, hb5⟩
          replace hb5 : Below wc.heap.size wc w5 := below_drawn' hb5
          have hT1 : (fun w' : World => w'.cell? ⟨bg, 1, none⟩ = some (.pointer (some ⟨bw, 0, none⟩)) ∧ w'.cell? ⟨bx, 1, none⟩ = some (.int .i64 a) ∧ w'.cell? ⟨bx, 2, none⟩ = some (.int .i64 b) ∧ w'.cell? ⟨bx, 3, none⟩ = some (.int .i64 c)) w5 := ⟨cell_keep (w := wc) (w' := w5) hb5 hT0.1, cell_keep (w := wc) (w' := w5) hb5 hT0.2.1, cell_keep (w := wc) (w' := w5) hb5 hT0.2.2.1, cell_keep (w := wc) (w' := w5) hb5 hT0.2.2.2⟩
          refine ⟨hT1, ?_⟩
          try dsimp only
          try simp only [Act.put, List.getElem_toArray, List.getElem_cons_succ, List.getElem_cons_zero, List.setIfInBounds_toArray, List.set_cons_zero, List.set_cons_succ]
          refine wpAnyH_take (i := 11) (v := (.tuple #[.agg A, .int .i64 (askErr t a b c)])) rfl (by kernel_rfl) (by kernel_rfl) (by kernel_rfl) (fun _ _ _ h => h) (Or.inl ⟨by rfl, fun wx hx => by go_simp⟩) hT1 ?_
          try dsimp only
          try simp only [Act.put, List.getElem_toArray, List.getElem_cons_succ, List.getElem_cons_zero, List.setIfInBounds_toArray, List.set_cons_zero, List.set_cons_succ]
          refine wpAnyH_take (i := 12) (v := (.agg A)) rfl (by kernel_rfl) (by kernel_rfl) (by kernel_rfl) (fun _ _ _ h => h) (Or.inl ⟨by rfl, fun wx hx => by go_simp⟩) hT1 ?_
          try dsimp only
          try simp only [Act.put, List.getElem_toArray, List.getElem_cons_succ, List.getElem_cons_zero, List.setIfInBounds_toArray, List.set_cons_zero, List.set_cons_succ]
          refine wpAnyH_take (i := 13) (v := (.int .i64 (askErr t a b c))) rfl (by kernel_rfl) (by kernel_rfl) (by kernel_rfl) (fun _ _ _ h => h) (Or.inl ⟨by rfl, fun wx hx => by go_simp⟩) hT1 ?_
          try dsimp only
          try simp only [Act.put, List.getElem_toArray, List.getElem_cons_succ, List.getElem_cons_zero, List.setIfInBounds_toArray, List.set_cons_zero, List.set_cons_succ]
          refine wpAnyH_all (rs := [14]) (by kernel_rfl) (by simp) ?_
          intro jj hjj
          simp only [List.mem_cons, List.not_mem_nil, or_false] at hjj
          subst hjj
          refine wpOp_alloc_z rfl rfl _ rfl _ zero_an ?_
          have hbal : Below wc.heap.size wc (w5.alloc (.cells An.zero.cells.toArray 83)) := bnext hb5 (below_alloc _ _)
          have hT2 : (fun w' : World => w'.cell? ⟨bg, 1, none⟩ = some (.pointer (some ⟨bw, 0, none⟩)) ∧ w'.cell? ⟨bx, 1, none⟩ = some (.int .i64 a) ∧ w'.cell? ⟨bx, 2, none⟩ = some (.int .i64 b) ∧ w'.cell? ⟨bx, 3, none⟩ = some (.int .i64 c)) (w5.alloc (.cells An.zero.cells.toArray 83)) := ⟨cell_keep (w := wc) hbal hT0.1, cell_keep (w := wc) hbal hT0.2.1, cell_keep (w := wc) hbal hT0.2.2.1, cell_keep (w := wc) hbal hT0.2.2.2⟩
          refine ⟨hT2, ?_⟩
          try dsimp only
          try simp only [Act.put, List.getElem_toArray, List.getElem_cons_succ, List.getElem_cons_zero, List.setIfInBounds_toArray, List.set_cons_zero, List.set_cons_succ]
          refine wpAnyH_all (rs := [15]) (by kernel_rfl) (by simp) ?_
          intro jj hjj
          simp only [List.mem_cons, List.not_mem_nil, or_false] at hjj
          subst hjj
          have G5 := heap_alloc_new w5 (.cells An.zero.cells.toArray 83)
          refine wpOp_store_row rfl rfl _ _ _ rfl A rfl rfl G5 (info_an hA) (by rw [hA.size]; rfl) hA.one ?_
          have hsb := hb5.size
          have hbst : Below wc.heap.size wc ((w5.alloc (.cells An.zero.cells.toArray 83)).setRow w5.heap.size A) := below_setRow _ hbal hsb
          have hT3 : (fun w' : World => w'.cell? ⟨bg, 1, none⟩ = some (.pointer (some ⟨bw, 0, none⟩)) ∧ w'.cell? ⟨bx, 1, none⟩ = some (.int .i64 a) ∧ w'.cell? ⟨bx, 2, none⟩ = some (.int .i64 b) ∧ w'.cell? ⟨bx, 3, none⟩ = some (.int .i64 c)) ((w5.alloc (.cells An.zero.cells.toArray 83)).setRow w5.heap.size A) := ⟨cell_keep (w := wc) hbst hT0.1, cell_keep (w := wc) hbst hT0.2.1, cell_keep (w := wc) hbst hT0.2.2.1, cell_keep (w := wc) hbst hT0.2.2.2⟩
          refine ⟨hT3, ?_⟩
          try dsimp only
          try simp only [Act.put, List.getElem_toArray, List.getElem_cons_succ, List.getElem_cons_zero, List.setIfInBounds_toArray, List.set_cons_zero, List.set_cons_succ]
          refine wpAnyH_take (i := 16) (v := (.int .i64 (askErr t a b c))) rfl (by kernel_rfl) (by kernel_rfl) (by kernel_rfl) (fun _ _ _ h => h) (Or.inl ⟨by rfl, fun wx hx => by go_simp⟩) hT3 ?_
          try dsimp only
          try simp only [Act.put, List.getElem_toArray, List.getElem_cons_succ, List.getElem_cons_zero, List.setIfInBounds_toArray, List.set_cons_zero, List.set_cons_succ]
          refine wpAnyH_done (by kernel_rfl) ?_ _
          have GZ := setRow_blk (A := A) G5
          clear hT0 hT1 hT2 hT3 hbal G5 hb5
          go_wp2_with fail
          go_meet
          exact ⟨w5.heap.size, A, rfl, rfl, hA, GZ, hsb, hbst⟩
        · skip
          refine wpOp_alloc_z rfl rfl _ rfl _ zero_an ?_
          have hbal : Below wc.heap.size wc (wc.drew.alloc (.cells An.zero.cells.toArray 83)) := below_drawn' (below_alloc wc.drew _)
          have hT1 : (fun w' : World => w'.cell? ⟨bg, 1, none⟩ = some (.pointer (some ⟨bw, 0, none⟩)) ∧ w'.cell? ⟨bx, 1, none⟩ = some (.int .i64 a) ∧ w'.cell? ⟨bx, 2, none⟩ = some (.int .i64 b) ∧ w'.cell? ⟨bx, 3, none⟩ = some (.int .i64 c)) (wc.drew.alloc (.cells An.zero.cells.toArray 83)) := ⟨cell_keep (w := wc) hbal hT0.1, cell_keep (w := wc) hbal hT0.2.1, cell_keep (w := wc) hbal hT0.2.2.1, cell_keep (w := wc) hbal hT0.2.2.2⟩
          refine ⟨hT1, ?_⟩
          try dsimp only
          try simp only [Act.put, List.getElem_toArray, List.getElem_cons_succ, List.getElem_cons_zero, List.setIfInBounds_toArray, List.set_cons_zero, List.set_cons_succ]
          refine wpAnyH_all (rs := [10]) (by kernel_rfl) (by simp) ?_
          intro jj hjj
          simp only [List.mem_cons, List.not_mem_nil, or_false] at hjj
          subst hjj
          refine wpOp_of_wp rfl rfl ?_
          go_simp
          refine (rAsk_any _ own B0 bw t wid D _ _ _ (HWC.out.below (w' := _) hbal) a b c (HG.out.di.lev (by omega))).mono ?_
          rintro e w5 ⟨A, rfl, hA, hb5⟩
          have hbX : Below wc.heap.size wc w5 := bnext hbal hb5
          have hT2 : (fun w' : World => w'.cell? ⟨bg, 1, none⟩ = some (.pointer (some ⟨bw, 0, none⟩)) ∧ w'.cell? ⟨bx, 1, none⟩ = some (.int .i64 a) ∧ w'.cell? ⟨bx, 2, none⟩ = some (.int .i64 b) ∧ w'.cell? ⟨bx, 3, none⟩ = some (.int .i64 c)) w5 := ⟨cell_keep (w := wc) hbX hT0.1, cell_keep (w := wc) hbX hT0.2.1, cell_keep (w := wc) hbX hT0.2.2.1, cell_keep (w := wc) hbX hT0.2.2.2⟩
          refine ⟨hT2, ?_⟩
          try dsimp only
          try simp only [Act.put, List.getElem_toArray, List.getElem_cons_succ, List.getElem_cons_zero, List.setIfInBounds_toArray, List.set_cons_zero, List.set_cons_succ]
          refine wpAnyH_take (i := 11) (v := (.tuple #[.agg A, .int .i64 (askErr t a b c)])) rfl (by kernel_rfl) (by kernel_rfl) (by kernel_rfl) (fun _ _ _ h => h) (Or.inl ⟨by rfl, fun wx hx => by go_simp⟩) hT2 ?_
          try dsimp only
          try simp only [Act.put, List.getElem_toArray, List.getElem_cons_succ, List.getElem_cons_zero, List.setIfInBounds_toArray, List.set_cons_zero, List.set_cons_succ]
          refine wpAnyH_take (i := 12) (v := (.agg A)) rfl (by kernel_rfl) (by kernel_rfl) (by kernel_rfl) (fun _ _ _ h => h) (Or.inl ⟨by rfl, fun wx hx => by go_simp⟩) hT2 ?_
          try dsimp only
          try simp only [Act.put, List.getElem_toArray, List.getElem_cons_succ, List.getElem_cons_zero, List.setIfInBounds_toArray, List.set_cons_zero, List.set_cons_succ]
          refine wpAnyH_take (i := 13) (v := (.int .i64 (askErr t a b c))) rfl (by kernel_rfl) (by kernel_rfl) (by kernel_rfl) (fun _ _ _ h => h) (Or.inl ⟨by rfl, fun wx hx => by go_simp⟩) hT2 ?_
          try dsimp only
          try simp only [Act.put, List.getElem_toArray, List.getElem_cons_succ, List.getElem_cons_zero, List.setIfInBounds_toArray, List.set_cons_zero, List.set_cons_succ]
          refine wpAnyH_all (rs := [15]) (by kernel_rfl) (by simp) ?_
          intro jj hjj
          simp only [List.mem_cons, List.not_mem_nil, or_false] at hjj
          subst hjj
          have G5 := keep hb5 (heap_alloc_new wc.drew (.cells An.zero.cells.toArray 83))
          refine wpOp_store_row rfl rfl _ _ _ rfl A rfl rfl G5 (info_an hA) (by rw [hA.size]; rfl) hA.one ?_
          have hbst : Below wc.heap.size wc (w5.setRow wc.heap.size A) := below_setRow _ hbX (Nat.le_refl _)
          have hT3 : (fun w' : World => w'.cell? ⟨bg, 1, none⟩ = some (.pointer (some ⟨bw, 0, none⟩)) ∧ w'.cell? ⟨bx, 1, none⟩ = some (.int .i64 a) ∧ w'.cell? ⟨bx, 2, none⟩ = some (.int .i64 b) ∧ w'.cell? ⟨bx, 3, none⟩ = some (.int .i64 c)) (w5.setRow wc.heap.size A) := ⟨cell_keep (w := wc) hbst hT0.1, cell_keep (w := wc) hbst hT0.2.1, cell_keep (w := wc) hbst hT0.2.2.1, cell_keep (w := wc) hbst hT0.2.2.2⟩
          refine ⟨hT3, ?_⟩
          try dsimp only
          try simp only [Act.put, List.getElem_toArray, List.getElem_cons_succ, List.getElem_cons_zero, List.setIfInBounds_toArray, List.set_cons_zero, List.set_cons_succ]
          refine wpAnyH_take (i := 16) (v := (.int .i64 (askErr t a b c))) rfl (by kernel_rfl) (by kernel_rfl) (by kernel_rfl) (fun _ _ _ h => h) (Or.inl ⟨by rfl, fun wx hx => by go_simp⟩) hT3 ?_
          try dsimp only
          try simp only [Act.put, List.getElem_toArray, List.getElem_cons_succ, List.getElem_cons_zero, List.setIfInBounds_toArray, List.set_cons_zero, List.set_cons_succ]
          refine wpAnyH_done (by kernel_rfl) ?_ _
          have GZ := setRow_blk (A := A) G5
          clear hT0 hT1 hT2 hT3 hbal G5 hb5 hbX
          go_wp2_with fail
          go_meet
          exact ⟨wc.heap.size, A, rfl, rfl, hA, GZ, Nat.le_refl _, hbst⟩
      case rest =>
        obtain ⟨gb, B, rfl, rfl, hB, gB, hgb, hbB⟩ := hcut
        rename World => wd
        have hAB : B = A := hB.eq HA.out
        subst hAB
        have GB' : Hid (wd.heap[gb]? = some (.cells B 83)) := gB
        have GA' : Hid (wd.heap[ga]? = some (.cells B 83)) := keep hbB GA.out
        have HBB : Hid (Below w.heap.size w wd) := bnext (bnext HB1.out HBA.out) hbB
        have HOK : Hid (askAn t (lvAt t D a) a b c).Ok := by
          obtain ⟨xt, xn, C, W⟩ := HG.out.wd
          obtain ⟨h1, h2⟩ := lvAt_ok W HG.out.di (by omega) a
          exact askAn_ok h1 h2 a b c
        have HEB : Hid (fitsI (askErr t a b c)) := by
          unfold Hid askErr fitsI
          split
          · split <;> omega
          · omega
        clear hB gB hbB GA HBA
        go_wp2_with (first | (refine load_an rfl _ rfl _ rfl _ _ HA.out (by exact GA'.out) ?_) | (refine load_an rfl _ rfl _ rfl _ _ HA.out (by exact GB'.out) ?_) | (refine eql_an rfl _ _ _ rfl _ _ HA.out HOK.out rfl rfl ?_) | (go_at_call 19; refine (num_any _ _ HEB.out).mono ?_; rintro e wA ⟨rfl, hwA⟩; have hwA := hwA.symm; subst hwA))
        go_ret
        exact ⟨rfl, own, ⟨D, vl, vt, vd, L, T, PK, (HG.out.below HR.out HBB.out).mono (by omega)⟩, Same.refl _ _, Fr.of_below HBB.out⟩
  · have hkb : (kind == 2) = false := by simpa using hk
    go_enter Tryz.func21, Tryz.ntmps21
    go_upto_region 5 with fail
    obtain ⟨bx, hbx⟩ : ∃ bx, bx = w.heap.size := ⟨_, rfl⟩
    obtain ⟨w1, hw1⟩ : ∃ w1, w1 = w.alloc (.cells #[.int .i64 kind, .int .i64 a, .int .i64 b, .int .i64 c, .string key, .int .i32 v, .int .i64 fr, .slice p pn pc] 33) := ⟨_, rfl⟩
    have HB1 : Hid (Below w.heap.size w w1) := by unfold Hid; rw [hw1]; exact below_alloc _ _
    have HBX : Hid (w1.heap[bx]? = some (.cells #[.int .i64 kind, .int .i64 a, .int .i64 b, .int .i64 c, .string key, .int .i32 v, .int .i64 fr, .slice p pn pc] 33)) := by unfold Hid; rw [hw1, hbx]; exact heap_alloc_new _ _
    have HG1 : Hid (GD SR w1 own B0 bg bs bw t wid m D vl vt vd L T PK) := HG.out.below HR.out HB1.out
    have c0 : w1.cell? ⟨bg, 0, none⟩ = some (.pointer (some ⟨bs, 0, none⟩)) := by rw [cell_of_row _ _ _ _ _ _ HG1.out.gb.game]; rfl
    have c1 : w1.cell? ⟨bg, 1, none⟩ = some (.pointer (some ⟨bw, 0, none⟩)) := by rw [cell_of_row _ _ _ _ _ _ HG1.out.gb.game]; rfl
    have x1 : w1.cell? ⟨bx, 1, none⟩ = some (.int .i64 a) := by rw [cell_of_row _ _ _ _ _ _ HBX.out]; rfl
    have x2 : w1.cell? ⟨bx, 2, none⟩ = some (.int .i64 b) := by rw [cell_of_row _ _ _ _ _ _ HBX.out]; rfl
    have x3 : w1.cell? ⟨bx, 3, none⟩ = some (.int .i64 c) := by rw [cell_of_row _ _ _ _ _ _ HBX.out]; rfl
    have HBXE : Hid (bx = w.heap.size) := hbx
    rw [← hw1, ← hbx]
    clear hw1 hbx HBX
    obtain ⟨own1, hown1⟩ : ∃ own1 : Ghost, own1 = fun k => if k = bx then .arg else own k := ⟨_, rfl⟩
    have hbxw : bx < w1.heap.size := block_lt_of_cell x1
    have HOW : Hid (∀ k, k ≠ bx → own1 k = own k) := fun k hk => by rw [hown1]; exact if_neg hk
    have HOX : Hid (own1 bx = .arg) := by unfold Hid; rw [hown1]; exact if_pos rfl
    have HGA : Hid (GD SR w1 own1 B0 bg bs bw t wid m D vl vt vd L T PK) := HG1.out.chg HR.out (Fr.refl _ _ _) fun k hk hf => by
      by_cases e : k = bx
      · exact absurd (HFR.out k (by have := HBXE.out; omega)) hf
      · exact HOW.out k e
    clear hown1
    -- Items of the program
    have hT0 : (fun w' : World => w'.cell? ⟨bg, 0, none⟩ = some (.pointer (some ⟨bs, 0, none⟩)) ∧ w'.cell? ⟨bx, 1, none⟩ = some (.int .i64 a)) w1.drew := ⟨c0, x1⟩
    refine wp_region_held (S := fun w' : World => w'.cell? ⟨bg, 0, none⟩ = some (.pointer (some ⟨bs, 0, none⟩)) ∧ w'.cell? ⟨bx, 1, none⟩ = some (.int .i64 a)) mixed ?_
    refine wpAnyH_take (i := 0) (v := (.pointer (some ⟨bg, 0, none⟩))) rfl (by kernel_rfl) (by kernel_rfl) (by kernel_rfl) (fun _ _ _ h => h) (Or.inl ⟨by rfl, fun wx hx => by go_simp⟩) hT0 ?_
    try dsimp only
    try simp only [Act.put, List.getElem_toArray, List.getElem_cons_succ, List.getElem_cons_zero, List.setIfInBounds_toArray, List.set_cons_zero, List.set_cons_succ]
    refine wpAnyH_take (i := 1) (v := (.pointer (some ⟨bg, 0, none⟩))) rfl (by kernel_rfl) (by kernel_rfl) (by kernel_rfl) (fun _ _ _ h => h) (Or.inl ⟨by rfl, fun wx hx => by go_simp⟩) hT0 ?_
    try dsimp only
    try simp only [Act.put, List.getElem_toArray, List.getElem_cons_succ, List.getElem_cons_zero, List.setIfInBounds_toArray, List.set_cons_zero, List.set_cons_succ]
    refine wpAnyH_take (i := 2) (v := (.pointer (some ⟨bg, 0, none⟩))) rfl (by kernel_rfl) (by kernel_rfl) (by kernel_rfl) (fun _ _ _ h => h) (Or.inl ⟨by rfl, fun wx hx => by go_simp⟩) hT0 ?_
    try dsimp only
    try simp only [Act.put, List.getElem_toArray, List.getElem_cons_succ, List.getElem_cons_zero, List.setIfInBounds_toArray, List.set_cons_zero, List.set_cons_succ]
    refine wpAnyH_take (i := 3) (v := (.pointer (some ⟨bs, 0, none⟩))) rfl (by kernel_rfl) (by kernel_rfl) (by kernel_rfl) (fun _ _ _ h => h) (Or.inl ⟨by rfl, fun wx hx => by have hx1 := hx.1; go_simp⟩) hT0 ?_
    try dsimp only
    try simp only [Act.put, List.getElem_toArray, List.getElem_cons_succ, List.getElem_cons_zero, List.setIfInBounds_toArray, List.set_cons_zero, List.set_cons_succ]
    refine wpAnyH_take (i := 4) (v := (.pointer (some ⟨bx, 1, none⟩))) rfl (by kernel_rfl) (by kernel_rfl) (by kernel_rfl) (fun _ _ _ h => h) (Or.inl ⟨by rfl, fun wx hx => by go_simp⟩) hT0 ?_
    try dsimp only
    try simp only [Act.put, List.getElem_toArray, List.getElem_cons_succ, List.getElem_cons_zero, List.setIfInBounds_toArray, List.set_cons_zero, List.set_cons_succ]
    refine wpAnyH_take (i := 5) (v := (.int .i64 a)) rfl (by kernel_rfl) (by kernel_rfl) (by kernel_rfl) (fun _ _ _ h => h) (Or.inl ⟨by rfl, fun wx hx => by have hx1 := hx.2; go_simp⟩) hT0 ?_
    try dsimp only
    try simp only [Act.put, List.getElem_toArray, List.getElem_cons_succ, List.getElem_cons_zero, List.setIfInBounds_toArray, List.set_cons_zero, List.set_cons_succ]
    refine wpAnyH_all (rs := [6]) (by kernel_rfl) (by simp) ?_
    intro jj hjj
    simp only [List.mem_cons, List.not_mem_nil, or_false] at hjj
    subst hjj
    refine wpOp_of_wp rfl rfl ?_
    go_simp
    refine (HR.out.items w1.drew own1 B0 bs t wid D (HR.out.below HGA.out.st below_drew) (HGA.out.di.mono (by omega)) a ha).mono ?_
    rintro e w2 ⟨v2, rfl, ho2, hb2⟩
    replace hb2 : Below w1.heap.size w1 w2 := below_drawn' hb2
    replace ho2 : Own clIt w2 w1.heap.size 114 v2 (lvAt t D a) := ho2
    obtain ⟨s2, rfl⟩ : ∃ s2 : Sl, v2 = .slice s2.p s2.n s2.c := by obtain ⟨p, c, e, _⟩ := ho2.form; exact ⟨⟨p, _, c⟩, e⟩
    have hT1 : (fun w' : World => w'.cell? ⟨bg, 0, none⟩ = some (.pointer (some ⟨bs, 0, none⟩)) ∧ w'.cell? ⟨bx, 1, none⟩ = some (.int .i64 a)) w2 := ⟨cell_keep hb2 c0, cell_keep hb2 x1⟩
    refine ⟨hT1, ?_⟩
    try dsimp only
    try simp only [Act.put, List.getElem_toArray, List.getElem_cons_succ, List.getElem_cons_zero, List.setIfInBounds_toArray, List.set_cons_zero, List.set_cons_succ]
    refine wpAnyH_take (i := 7) (v := (.slice s2.p s2.n s2.c)) rfl (by kernel_rfl) (by kernel_rfl) (by kernel_rfl) (fun _ _ _ h => h) (Or.inl ⟨by rfl, fun wx hx => by go_simp⟩) hT1 ?_
    try dsimp only
    try simp only [Act.put, List.getElem_toArray, List.getElem_cons_succ, List.getElem_cons_zero, List.setIfInBounds_toArray, List.set_cons_zero, List.set_cons_succ]
    refine wpAnyH_done (by kernel_rfl) ?_ _
    have HG2 : Hid (GD SR w2 own1 B0 bg bs bw t wid m D vl vt vd L T PK) := HGA.out.below HR.out hb2
    have HB2 : Hid (Below w.heap.size w w2) := bnext HB1.out hb2
    have HO2 : Hid (Own clIt w2 w1.heap.size 114 (.slice s2.p s2.n s2.c) (lvAt t D a)) := ho2
    have hs2 := hb2.size
    have d1 : w2.cell? ⟨bg, 1, none⟩ = some (.pointer (some ⟨bw, 0, none⟩)) := cell_keep hb2 c1
    have xx1 : w2.cell? ⟨bx, 1, none⟩ = some (.int .i64 a) := cell_keep hb2 x1
    have hsw : w.heap.size ≤ w1.heap.size := HB1.out.size
    clear hT0 hT1 ho2 hb2 c0 c1 x1 x2 x3
    -- Items of the document
    go_upto_region 6 with fail
    have hT0 : (fun w' : World => w'.cell? ⟨bg, 1, none⟩ = some (.pointer (some ⟨bw, 0, none⟩)) ∧ w'.cell? ⟨bx, 1, none⟩ = some (.int .i64 a)) w2.drew := ⟨d1, xx1⟩
    refine wp_region_held (S := fun w' : World => w'.cell? ⟨bg, 1, none⟩ = some (.pointer (some ⟨bw, 0, none⟩)) ∧ w'.cell? ⟨bx, 1, none⟩ = some (.int .i64 a)) mixed ?_
    refine wpAnyH_take (i := 0) (v := (.pointer (some ⟨bg, 0, none⟩))) rfl (by kernel_rfl) (by kernel_rfl) (by kernel_rfl) (fun _ _ _ h => h) (Or.inl ⟨by rfl, fun wx hx => by go_simp⟩) hT0 ?_
    try dsimp only
    try simp only [Act.put, List.getElem_toArray, List.getElem_cons_succ, List.getElem_cons_zero, List.setIfInBounds_toArray, List.set_cons_zero, List.set_cons_succ]
    refine wpAnyH_take (i := 1) (v := (.pointer (some ⟨bg, 0, none⟩))) rfl (by kernel_rfl) (by kernel_rfl) (by kernel_rfl) (fun _ _ _ h => h) (Or.inl ⟨by rfl, fun wx hx => by go_simp⟩) hT0 ?_
    try dsimp only
    try simp only [Act.put, List.getElem_toArray, List.getElem_cons_succ, List.getElem_cons_zero, List.setIfInBounds_toArray, List.set_cons_zero, List.set_cons_succ]
    refine wpAnyH_take (i := 2) (v := (.pointer (some ⟨bg, 1, none⟩))) rfl (by kernel_rfl) (by kernel_rfl) (by kernel_rfl) (fun _ _ _ h => h) (Or.inl ⟨by rfl, fun wx hx => by go_simp⟩) hT0 ?_
    try dsimp only
    try simp only [Act.put, List.getElem_toArray, List.getElem_cons_succ, List.getElem_cons_zero, List.setIfInBounds_toArray, List.set_cons_zero, List.set_cons_succ]
    refine wpAnyH_take (i := 3) (v := (.pointer (some ⟨bw, 0, none⟩))) rfl (by kernel_rfl) (by kernel_rfl) (by kernel_rfl) (fun _ _ _ h => h) (Or.inl ⟨by rfl, fun wx hx => by have hx1 := hx.1; go_simp⟩) hT0 ?_
    try dsimp only
    try simp only [Act.put, List.getElem_toArray, List.getElem_cons_succ, List.getElem_cons_zero, List.setIfInBounds_toArray, List.set_cons_zero, List.set_cons_succ]
    refine wpAnyH_take (i := 4) (v := (.pointer (some ⟨bx, 1, none⟩))) rfl (by kernel_rfl) (by kernel_rfl) (by kernel_rfl) (fun _ _ _ h => h) (Or.inl ⟨by rfl, fun wx hx => by go_simp⟩) hT0 ?_
    try dsimp only
    try simp only [Act.put, List.getElem_toArray, List.getElem_cons_succ, List.getElem_cons_zero, List.setIfInBounds_toArray, List.set_cons_zero, List.set_cons_succ]
    refine wpAnyH_take (i := 5) (v := (.int .i64 a)) rfl (by kernel_rfl) (by kernel_rfl) (by kernel_rfl) (fun _ _ _ h => h) (Or.inl ⟨by rfl, fun wx hx => by have hx1 := hx.2; go_simp⟩) hT0 ?_
    try dsimp only
    try simp only [Act.put, List.getElem_toArray, List.getElem_cons_succ, List.getElem_cons_zero, List.setIfInBounds_toArray, List.set_cons_zero, List.set_cons_succ]
    refine wpAnyH_all (rs := [6]) (by kernel_rfl) (by simp) ?_
    intro jj hjj
    simp only [List.mem_cons, List.not_mem_nil, or_false] at hjj
    subst hjj
    refine wpOp_of_wp rfl rfl ?_
    go_simp
    obtain ⟨xt, xn, C, W⟩ := HG2.out.wd
    refine (rItems_any w2.drew own1 B0 bw t wid D xt xn C (W.below below_drew) a (HG2.out.di.lev (by omega))).mono ?_
    rintro e w3 ⟨v3, rfl, ho3, hb3⟩
    replace hb3 : Below w2.heap.size w2 w3 := below_drawn' hb3
    replace ho3 : Own clIt w3 w2.heap.size 114 v3 (lvAt t D a) := ho3
    obtain ⟨s3, rfl⟩ : ∃ s3 : Sl, v3 = .slice s3.p s3.n s3.c := by obtain ⟨p, c, e, _⟩ := ho3.form; exact ⟨⟨p, _, c⟩, e⟩
    have hT1 : (fun w' : World => w'.cell? ⟨bg, 1, none⟩ = some (.pointer (some ⟨bw, 0, none⟩)) ∧ w'.cell? ⟨bx, 1, none⟩ = some (.int .i64 a)) w3 := ⟨cell_keep hb3 d1, cell_keep hb3 xx1⟩
    refine ⟨hT1, ?_⟩
    try dsimp only
    try simp only [Act.put, List.getElem_toArray, List.getElem_cons_succ, List.getElem_cons_zero, List.setIfInBounds_toArray, List.set_cons_zero, List.set_cons_succ]
    refine wpAnyH_take (i := 7) (v := (.slice s3.p s3.n s3.c)) rfl (by kernel_rfl) (by kernel_rfl) (by kernel_rfl) (fun _ _ _ h => h) (Or.inl ⟨by rfl, fun wx hx => by go_simp⟩) hT1 ?_
    try dsimp only
    try simp only [Act.put, List.getElem_toArray, List.getElem_cons_succ, List.getElem_cons_zero, List.setIfInBounds_toArray, List.set_cons_zero, List.set_cons_succ]
    refine wpAnyH_done (by kernel_rfl) ?_ _
    obtain ⟨hokL, hlenL⟩ := lvAt_ok W HG2.out.di (by omega) a
    have HOL : Hid (AllOkI (lvAt t D a) ∧ (lvAt t D a).length ≤ 160) := ⟨hokL, hlenL⟩
    have HG3 : Hid (GD SR w3 own1 B0 bg bs bw t wid m D vl vt vd L T PK) := HG2.out.below HR.out hb3
    have HB3 : Hid (Below w.heap.size w w3) := bnext HB2.out hb3
    have HO3 : Hid (Own clIt w3 w1.heap.size 114 (.slice s2.p s2.n s2.c) (lvAt t D a)) := HO2.out.below hb3
    have HSS : Hid ((lvAt t D a).length = s2.n ∧ (lvAt t D a).length = s3.n ∧ RowsAt clIt w3 s2.p (lvAt t D a) ∧ RowsAt clIt w3 s3.p (lvAt t D a)) := ⟨(Own.sl (s := s2) HO3.out).1, (Own.sl (s := s3) ho3).1, (Own.sl (s := s2) HO3.out).2, (Own.sl (s := s3) ho3).2⟩
    have hs3 := hb3.size
    have y1 : w3.cell? ⟨bx, 1, none⟩ = some (.int .i64 a) := cell_keep hb3 xx1
    have HS23 : Hid (s3.n = s2.n) := by have h1 := HSS.out.1; have h2 := HSS.out.2.1; unfold Hid; omega
    clear hT0 hT1 ho3 hb3 d1 xx1 hokL hlenL W HG2 HB2 HO2
    -- the same; the list is kept
    go_upto_region 9 with (first | (go_at_call 39; rw [HS23.out]; refine (same_any (lvAt t D a) HOL.out.1 _ _ s2.n _ _ _ HSS.out.1 HSS.out.2.2.1 HSS.out.2.2.2 (by have h1 := HSS.out.1; have h2 := HOL.out.2; omega)).mono ?_; rintro e w4 ⟨rfl, hb4⟩; have HG4 : Hid (GD SR w4 own1 B0 bg bs bw t wid m D vl vt vd L T PK) := HG3.out.below HR.out hb4; have HB4 : Hid (Below w.heap.size w w4) := bnext HB3.out hb4; have HO4 : Hid (Own clIt w4 w1.heap.size 114 (.slice s2.p s2.n s2.c) (lvAt t D a)) := HO3.out.below hb4; have y4 : w4.cell? ⟨bx, 1, none⟩ = some (.int .i64 a) := cell_keep hb4 y1; have hs4 := hb4.size; clear hb4 y1) | (go_at_call 40; refine (keep_any bg _ _ _ _ _ w4 own1 B0 w1.heap.size L T HG4.out.gb.bk HG4.out.gb.game HG4.out.gb.gm (by have := HG4.out.ll; omega) _ _ HO4.out (fun k hk => by rw [HOW.out k (by have := (HO4.out.lt k hk).1; omega)]; exact HFR.out k (by have := (HO4.out.lt k hk).1; omega)) (by have := HOL.out.2; omega) HG4.out.gb.b0 (by omega)).mono ?_; rintro e w5 ⟨rfl, vl', vt', L', T', own', hg5, hbk5, hl5, hsm5, hfr5⟩))
    rename World => w5
    obtain ⟨sl5, st5, e51, e52, g5⟩ := HG4.out.kept HR.out hg5 hbk5 hl5 hsm5 hfr5
    have HG5 : Hid (GD SR w5 own' B0 bg bs bw t wid (m + 1) D sl5 st5 vd L' T' PK) := g5
    have HSM : Hid (Same w4 own1 own' ∧ Fr own1 (fun t => t = .gm ∨ t = .bL ∨ t = .bT) w4 w5) := ⟨hsm5, hfr5⟩
    have c5 : w5.cell? ⟨bg, 0, none⟩ = some (.pointer (some ⟨bs, 0, none⟩)) := by rw [cell_of_row _ _ _ _ _ _ HG5.out.gb.game]; rfl
    have c51 : w5.cell? ⟨bg, 1, none⟩ = some (.pointer (some ⟨bw, 0, none⟩)) := by rw [cell_of_row _ _ _ _ _ _ HG5.out.gb.game]; rfl
    have x5 : w5.cell? ⟨bx, 1, none⟩ = some (.int .i64 a) := by
      rw [World.cell?_of_block (w := w4) (hfr5.block bx (by omega) (by rw [HOX.out]; simp) (by rw [HOX.out]; simp))]; exact y4
    clear g5 hg5 hbk5 hl5 hsm5 hfr5 y4 e51 e52 HG4 HG3 HO3 HO4
    -- Watermark of the program
    have hT0 : (fun w' : World => w'.cell? ⟨bg, 0, none⟩ = some (.pointer (some ⟨bs, 0, none⟩)) ∧ w'.cell? ⟨bx, 1, none⟩ = some (.int .i64 a)) w5.drew := ⟨c5, x5⟩
    refine wp_region_held (S := fun w' : World => w'.cell? ⟨bg, 0, none⟩ = some (.pointer (some ⟨bs, 0, none⟩)) ∧ w'.cell? ⟨bx, 1, none⟩ = some (.int .i64 a)) mixed ?_
    refine wpAnyH_take (i := 0) (v := (.pointer (some ⟨bg, 0, none⟩))) rfl (by kernel_rfl) (by kernel_rfl) (by kernel_rfl) (fun _ _ _ h => h) (Or.inl ⟨by rfl, fun wx hx => by go_simp⟩) hT0 ?_
    try dsimp only
    try simp only [Act.put, List.getElem_toArray, List.getElem_cons_succ, List.getElem_cons_zero, List.setIfInBounds_toArray, List.set_cons_zero, List.set_cons_succ]
    refine wpAnyH_take (i := 1) (v := (.pointer (some ⟨bg, 0, none⟩))) rfl (by kernel_rfl) (by kernel_rfl) (by kernel_rfl) (fun _ _ _ h => h) (Or.inl ⟨by rfl, fun wx hx => by go_simp⟩) hT0 ?_
    try dsimp only
    try simp only [Act.put, List.getElem_toArray, List.getElem_cons_succ, List.getElem_cons_zero, List.setIfInBounds_toArray, List.set_cons_zero, List.set_cons_succ]
    refine wpAnyH_take (i := 2) (v := (.pointer (some ⟨bg, 0, none⟩))) rfl (by kernel_rfl) (by kernel_rfl) (by kernel_rfl) (fun _ _ _ h => h) (Or.inl ⟨by rfl, fun wx hx => by go_simp⟩) hT0 ?_
    try dsimp only
    try simp only [Act.put, List.getElem_toArray, List.getElem_cons_succ, List.getElem_cons_zero, List.setIfInBounds_toArray, List.set_cons_zero, List.set_cons_succ]
    refine wpAnyH_take (i := 3) (v := (.pointer (some ⟨bs, 0, none⟩))) rfl (by kernel_rfl) (by kernel_rfl) (by kernel_rfl) (fun _ _ _ h => h) (Or.inl ⟨by rfl, fun wx hx => by have hx1 := hx.1; go_simp⟩) hT0 ?_
    try dsimp only
    try simp only [Act.put, List.getElem_toArray, List.getElem_cons_succ, List.getElem_cons_zero, List.setIfInBounds_toArray, List.set_cons_zero, List.set_cons_succ]
    refine wpAnyH_take (i := 4) (v := (.pointer (some ⟨bx, 1, none⟩))) rfl (by kernel_rfl) (by kernel_rfl) (by kernel_rfl) (fun _ _ _ h => h) (Or.inl ⟨by rfl, fun wx hx => by go_simp⟩) hT0 ?_
    try dsimp only
    try simp only [Act.put, List.getElem_toArray, List.getElem_cons_succ, List.getElem_cons_zero, List.setIfInBounds_toArray, List.set_cons_zero, List.set_cons_succ]
    refine wpAnyH_take (i := 5) (v := (.int .i64 a)) rfl (by kernel_rfl) (by kernel_rfl) (by kernel_rfl) (fun _ _ _ h => h) (Or.inl ⟨by rfl, fun wx hx => by have hx1 := hx.2; go_simp⟩) hT0 ?_
    try dsimp only
    try simp only [Act.put, List.getElem_toArray, List.getElem_cons_succ, List.getElem_cons_zero, List.setIfInBounds_toArray, List.set_cons_zero, List.set_cons_succ]
    refine wpAnyH_all (rs := [6]) (by kernel_rfl) (by simp) ?_
    intro jj hjj
    simp only [List.mem_cons, List.not_mem_nil, or_false] at hjj
    subst hjj
    refine wpOp_of_wp rfl rfl ?_
    go_simp
    refine (HR.out.mark w5.drew own' B0 bs t wid D (HR.out.below HG5.out.st below_drew) (HG5.out.di.mono (by omega)) a ha).mono ?_
    rintro e w6 ⟨rfl, hb6⟩
    replace hb6 : Below w5.heap.size w5 w6 := below_drawn' hb6
    have hT1 : (fun w' : World => w'.cell? ⟨bg, 0, none⟩ = some (.pointer (some ⟨bs, 0, none⟩)) ∧ w'.cell? ⟨bx, 1, none⟩ = some (.int .i64 a)) w6 := ⟨cell_keep hb6 c5, cell_keep hb6 x5⟩
    refine ⟨hT1, ?_⟩
    try dsimp only
    try simp only [Act.put, List.getElem_toArray, List.getElem_cons_succ, List.getElem_cons_zero, List.setIfInBounds_toArray, List.set_cons_zero, List.set_cons_succ]
    refine wpAnyH_take (i := 7) (v := (.int .i64 (wmAt t D a))) rfl (by kernel_rfl) (by kernel_rfl) (by kernel_rfl) (fun _ _ _ h => h) (Or.inl ⟨by rfl, fun wx hx => by go_simp⟩) hT1 ?_
    try dsimp only
    try simp only [Act.put, List.getElem_toArray, List.getElem_cons_succ, List.getElem_cons_zero, List.setIfInBounds_toArray, List.set_cons_zero, List.set_cons_succ]
    refine wpAnyH_done (by kernel_rfl) ?_ _
    have HG6 : Hid (GD SR w6 own' B0 bg bs bw t wid (m + 1) D sl5 st5 vd L' T' PK) := HG5.out.below HR.out hb6
    have HB6 : Hid (Below w5.heap.size w5 w6) := hb6
    have c6 : w6.cell? ⟨bg, 1, none⟩ = some (.pointer (some ⟨bw, 0, none⟩)) := cell_keep hb6 c51
    have x6 : w6.cell? ⟨bx, 1, none⟩ = some (.int .i64 a) := cell_keep hb6 x5
    clear hT0 hT1 hb6 c5 c51 x5
    -- Watermark of the document
    go_upto_region 10 with fail
    have hT0 : (fun w' : World => w'.cell? ⟨bg, 1, none⟩ = some (.pointer (some ⟨bw, 0, none⟩)) ∧ w'.cell? ⟨bx, 1, none⟩ = some (.int .i64 a)) w6.drew := ⟨c6, x6⟩
    refine wp_region_held (S := fun w' : World => w'.cell? ⟨bg, 1, none⟩ = some (.pointer (some ⟨bw, 0, none⟩)) ∧ w'.cell? ⟨bx, 1, none⟩ = some (.int .i64 a)) mixed ?_
    refine wpAnyH_take (i := 0) (v := (.pointer (some ⟨bg, 0, none⟩))) rfl (by kernel_rfl) (by kernel_rfl) (by kernel_rfl) (fun _ _ _ h => h) (Or.inl ⟨by rfl, fun wx hx => by go_simp⟩) hT0 ?_
    try dsimp only
    try simp only [Act.put, List.getElem_toArray, List.getElem_cons_succ, List.getElem_cons_zero, List.setIfInBounds_toArray, List.set_cons_zero, List.set_cons_succ]
    refine wpAnyH_take (i := 1) (v := (.pointer (some ⟨bg, 0, none⟩))) rfl (by kernel_rfl) (by kernel_rfl) (by kernel_rfl) (fun _ _ _ h => h) (Or.inl ⟨by rfl, fun wx hx => by go_simp⟩) hT0 ?_
    try dsimp only
    try simp only [Act.put, List.getElem_toArray, List.getElem_cons_succ, List.getElem_cons_zero, List.setIfInBounds_toArray, List.set_cons_zero, List.set_cons_succ]
    refine wpAnyH_take (i := 2) (v := (.pointer (some ⟨bg, 1, none⟩))) rfl (by kernel_rfl) (by kernel_rfl) (by kernel_rfl) (fun _ _ _ h => h) (Or.inl ⟨by rfl, fun wx hx => by go_simp⟩) hT0 ?_
    try dsimp only
    try simp only [Act.put, List.getElem_toArray, List.getElem_cons_succ, List.getElem_cons_zero, List.setIfInBounds_toArray, List.set_cons_zero, List.set_cons_succ]
    refine wpAnyH_take (i := 3) (v := (.pointer (some ⟨bw, 0, none⟩))) rfl (by kernel_rfl) (by kernel_rfl) (by kernel_rfl) (fun _ _ _ h => h) (Or.inl ⟨by rfl, fun wx hx => by have hx1 := hx.1; go_simp⟩) hT0 ?_
    try dsimp only
    try simp only [Act.put, List.getElem_toArray, List.getElem_cons_succ, List.getElem_cons_zero, List.setIfInBounds_toArray, List.set_cons_zero, List.set_cons_succ]
    refine wpAnyH_take (i := 4) (v := (.pointer (some ⟨bx, 1, none⟩))) rfl (by kernel_rfl) (by kernel_rfl) (by kernel_rfl) (fun _ _ _ h => h) (Or.inl ⟨by rfl, fun wx hx => by go_simp⟩) hT0 ?_
    try dsimp only
    try simp only [Act.put, List.getElem_toArray, List.getElem_cons_succ, List.getElem_cons_zero, List.setIfInBounds_toArray, List.set_cons_zero, List.set_cons_succ]
    refine wpAnyH_take (i := 5) (v := (.int .i64 a)) rfl (by kernel_rfl) (by kernel_rfl) (by kernel_rfl) (fun _ _ _ h => h) (Or.inl ⟨by rfl, fun wx hx => by have hx1 := hx.2; go_simp⟩) hT0 ?_
    try dsimp only
    try simp only [Act.put, List.getElem_toArray, List.getElem_cons_succ, List.getElem_cons_zero, List.setIfInBounds_toArray, List.set_cons_zero, List.set_cons_succ]
    refine wpAnyH_all (rs := [6]) (by kernel_rfl) (by simp) ?_
    intro jj hjj
    simp only [List.mem_cons, List.not_mem_nil, or_false] at hjj
    subst hjj
    refine wpOp_of_wp rfl rfl ?_
    go_simp
    obtain ⟨xt, xn, C, W⟩ := HG6.out.wd
    refine (rWatermark_any w6.drew own' B0 bw t wid D xt xn C (W.below below_drew) a).mono ?_
    rintro e w7 ⟨rfl, hw7⟩
    subst hw7
    refine ⟨hT0, ?_⟩
    try dsimp only
    try simp only [Act.put, List.getElem_toArray, List.getElem_cons_succ, List.getElem_cons_zero, List.setIfInBounds_toArray, List.set_cons_zero, List.set_cons_succ]
    refine wpAnyH_take (i := 7) (v := (.int .i64 (wmAt t D a))) rfl (by kernel_rfl) (by kernel_rfl) (by kernel_rfl) (fun _ _ _ h => h) (Or.inl ⟨by rfl, fun wx hx => by go_simp⟩) hT0 ?_
    try dsimp only
    try simp only [Act.put, List.getElem_toArray, List.getElem_cons_succ, List.getElem_cons_zero, List.setIfInBounds_toArray, List.set_cons_zero, List.set_cons_succ]
    refine wpAnyH_done (by kernel_rfl) ?_ _
    clear hT0 W
    obtain ⟨w7, hw7⟩ : ∃ w7, w7 = w6.drew := ⟨_, rfl⟩
    have HB7 : Hid (Below w6.heap.size w6 w7) := by unfold Hid; rw [hw7]; exact below_drew
    rw [← hw7]
    clear hw7 c6 x6
    go_wp2
    go_ret
    refine ⟨rfl, own', ⟨D, sl5, st5, vd, L', T', PK, HG6.out.below HR.out HB7.out⟩, fun k hk hf => ?_, ?_⟩
    · have e := HOW.out k (by have := HBXE.out; omega)
      rw [HSM.out.1 k (Nat.lt_of_lt_of_le hk HB4.out.size) (by rw [e]; exact hf), e]
    · have f1 := HB4.out
      have f2 := HSM.out.2
      have f3 : Below w5.heap.size w5 w7 := bnext HB6.out HB7.out
      refine ⟨f3.os.trans (f2.os.trans f1.os), f3.tape.trans (f2.tape.trans f1.tape), f3.output.trans (f2.output.trans f1.output), Nat.le_trans f1.size (Nat.le_trans f2.size f3.size), fun k hk hf hn => ?_⟩
      have ea : own k = .arg := Classical.not_not.1 hn
      have e := HOW.out k (by have := HBXE.out; omega)
      have hk4 := Nat.lt_of_lt_of_le hk f1.size
      rw [f3.block k (Nat.lt_of_lt_of_le hk4 f2.size), f2.block k hk4 (by rw [e]; exact hf) (by rw [e, ea]; simp)]
      exact f1.block k hk
theorem asks_any (SR : SRT) (R : PR SR) (w : World) (own : Ghost) (B0 bg bs bw : Nat) (t : List Int) (wid : Int) (m : Nat) (hx : GX SR B0 bg bs bw t wid m w own) (hm : m < 100000000) (kind a b c v fr : Int) (key : ByteArray) (p : Option Addr) (pn pc : Nat) (ha : fitsI a) (hb : fitsI b) (hc : fitsI c) :
    Calls Tryz.prog 21 #[.pointer (some ⟨bg, 0, none⟩), .agg #[.int .i64 kind, .int .i64 a, .int .i64 b, .int .i64 c, .string key, .int .i32 v, .int .i64 fr, .slice p pn pc]] w fun e w' => e = .returned (.bool true) ∧ Nx SR B0 bg bs bw t wid (m + 1) w own w' :=
  (asks_any0 SR R w (cutO w own) B0 bg bs bw t wid m (hx.cut R) hm (cut_at w own) kind a b c v fr key p pn pc ha hb hc).mono fun e w' ⟨h1, h2⟩ => ⟨h1, h2.cut⟩
end Go.Proofs.YtpglbakcjihohaaGreat

/-! 'step': Ingest, Advance, Sync, Crash of both stores; the rest by 'asks', 'sends', 'brings'. -/
namespace Go.Proofs.YtpglbakcjihohaaGreat
open Go.RowKit
set_option maxRecDepth 100000

theorem cell_fr {own : Ghost} {S : Tag → Prop} {w w' : World} (f : Fr own S w w') {b o : Nat} {v : Value} (hc : w.cell? ⟨b, o, none⟩ = some v) (hf : own b ≠ .free) (hn : ¬ S (own b)) : w'.cell? ⟨b, o, none⟩ = some v := by
  rw [World.cell?_of_block (w := w) (f.block b (block_lt_of_cell hc) hf hn)]; exact hc
theorem fr_drew {own : Ghost} {S : Tag → Prop} {w w' : World} (f : Fr own S w.drew w') : Fr own S w w' := ⟨f.os, f.tape, f.output, f.size, f.block⟩
theorem not_st {t : Tag} (h : ∀ i, t ≠ .st i) : ¬ isSt t := fun ⟨i, e⟩ => h i e
theorem not_wd {t : Tag} (h : ∀ i, t ≠ .wd i) : ¬ isWd t := fun ⟨i, e⟩ => h i e
theorem GD.both {SR : SRT} (R : PR SR) {w1 w2 w3 : World} {own1 own2 own3 : Ghost} {B0 bg bs bw : Nat} {t : List Int} {wid : Int} {m m' : Nat} {D D' : List Nd} {vl vt vd : Sl} {L T : List Sl} {PK : List Pk} {xt xn : Sl} {C' : List NdC} (g : GD SR w1 own1 B0 bg bs bw t wid m D vl vt vd L T PK)
    (st2 : SR w2 own2 B0 bs t wid D') (s2 : Same w1 own1 own2) (f2 : Fr own1 isSt w1 w2) (wd3 : WRep w3 own3 B0 bw t wid D' xt xn C') (s3 : Same w2 own2 own3) (f3 : Fr own2 isWd w2 w3) (di : DI D' m') (hm : m ≤ m') : GD SR w3 own3 B0 bg bs bw t wid m' D' vl vt vd L T PK where
  gb := (g.gb.chg f2 s2 (not_st (by simp)) (not_st (by simp)) (not_st (by simp)) (not_st (by simp)) (not_st (by simp)) (not_st (by simp))).chg f3 s3 (not_wd (by simp)) (not_wd (by simp)) (not_wd (by simp)) (not_wd (by simp)) (not_wd (by simp)) (not_wd (by simp))
  st := R.chg st2 f3 s3 fun i => not_wd (by simp)
  wd := ⟨xt, xn, C', wd3⟩
  di := di
  ll := Nat.le_trans g.ll hm
  lp := Nat.le_trans g.lp hm
/-- What was done behind the box, told of the world ahead of it. -/
theorem Nx.mk {SR : SRT} {B0 bg bs bw : Nat} {t : List Int} {wid : Int} {m : Nat} {w w1 w3 : World} {own own1 own3 : Ghost} (hb : Below w.heap.size w w1) (ho : ∀ k, k < w.heap.size → own1 k = own k) (g : GX SR B0 bg bs bw t wid m w3 own3) (s : Same w1 own1 own3) (f : Fr own1 notArg w1 w3) : Nx SR B0 bg bs bw t wid m w own w3 := by
  refine ⟨own3, g, fun k hk hf => ?_, f.os.trans hb.os, f.tape.trans hb.tape, f.output.trans hb.output, Nat.le_trans hb.size f.size, fun k hk hf hn => ?_⟩
  · have e := ho k hk
    rw [s k (Nat.lt_of_lt_of_le hk hb.size) (by rw [e]; exact hf), e]
  · have e := ho k hk
    rw [f.block k (Nat.lt_of_lt_of_le hk hb.size) (by rw [e]; exact hf) (by rw [e]; exact hn)]; exact hb.block k hk
theorem Fr.stwd {own1 own2 : Ghost} {w1 w2 w3 : World} (f2 : Fr own1 isSt w1 w2) (s2 : Same w1 own1 own2) (f3 : Fr own2 isWd w2 w3) : Fr own1 notArg w1 w3 :=
  (f2.mono (S' := notArg) fun t ⟨i, e⟩ => by rw [e]; simp [notArg]).trans s2 (f3.mono fun t ⟨i, e⟩ => by rw [e]; simp [notArg])
theorem ingD_di {t : List Int} {wid : Int} {D : List Nd} {m : Nat} (h : DI D m) (n at' : Int) (key : ByteArray) (v : Int) : DI (ingD t wid D n at' key v) (m + 1) := by
  unfold ingD
  split
  · cases hx : D[n.toNat]? with
    | none => exact h.mono (by omega)
    | some d =>
      refine fun k d' hk => ?_
      have hd := h _ d hx
      by_cases e : n.toNat = k
      · subst e
        rw [List.getElem?_set] at hk
        simp only [if_true] at hk
        split at hk
        · cases hk; exact ⟨by simp; omega, Nat.le_succ_of_le hd.2.1, hd.2.2⟩
        · cases hk
      · rw [List.getElem?_set_ne e] at hk; exact h.mono (by omega) k d' hk
  · exact h.mono (by omega)
theorem set_di {D : List Nd} {m k : Nat} {d' : Nd} (h : DI D m) (hd : d'.lev.length ≤ m ∧ d'.kev.length ≤ m ∧ Good d'.items ∧ Good d'.saved) : DI (D.set k d') m := fun j d hj => by
  by_cases e : k = j
  · subst e
    rw [List.getElem?_set] at hj
    simp only [if_true] at hj
    split at hj
    · cases hj; exact hd
    · cases hj
  · rw [List.getElem?_set_ne e] at hj; exact h j d hj
theorem advD_di {t : List Int} {wid : Int} {D : List Nd} {m : Nat} (h : DI D m) (n tm : Int) : DI (advD t wid D n tm) m := by
  unfold advD
  split
  · cases hx : D[n.toNat]? with
    | none => exact h
    | some d => exact set_di h (h _ d hx)
  · exact h
theorem synD_di {t : List Int} {D : List Nd} {m : Nat} (h : DI D m) (n : Int) : DI (synD t D n) m := by
  unfold synD
  split
  · cases hx : D[n.toNat]? with
    | none => exact h
    | some d => have := h _ d hx; exact set_di h ⟨this.1, this.1, this.2.2.1, this.2.2.1⟩
  · exact h
theorem craD_di {t : List Int} {D : List Nd} {m : Nat} (h : DI D m) (n : Int) : DI (craD t D n) m := by
  unfold craD
  split
  · cases hx : D[n.toNat]? with
    | none => exact h
    | some d => have := h _ d hx; exact set_di h ⟨this.2.1, this.2.1, this.2.2.2, this.2.2.2⟩
  · exact h
theorem wrg_fit (t : List Int) (n : Int) : 0 ≤ wrg t n ∧ wrg t n ≤ 9 := by unfold wrg; split; split <;> omega; omega
theorem ingE_fit (t : List Int) (wid : Int) (D : List Nd) (n at' : Int) (key : ByteArray) : fitsI (ingE t wid D n at' key) := by
  have := wrg_fit t n
  unfold fitsI ingE
  repeat' split
  all_goals omega
theorem advE_fit (t : List Int) (wid : Int) (D : List Nd) (n tm : Int) : fitsI (advE t wid D n tm) := by
  have := wrg_fit t n
  unfold fitsI advE
  repeat' split
  all_goals omega
theorem ndE_fit (t : List Int) (n : Int) : fitsI (ndE t n) := by unfold fitsI ndE; split <;> omega
set_option maxHeartbeats 4000000 in
theorem step3_any (SR : SRT) (R : PR SR) (Q : PL SR) (w : World) (own : Ghost) (B0 bg bs bw : Nat) (t : List Int) (wid : Int) (m : Nat) (hx : GX SR B0 bg bs bw t wid m w own) (hm : m < 100000000) (hfree : ∀ k, w.heap.size ≤ k → own k = .free) (a b c v fr : Int) (key : ByteArray) (p : Option Addr) (pn pc : Nat) (ha : fitsI a) (hb : fitsI b) (hks : key.size ≤ maxLen) (hv0 : -2147483648 ≤ v) (hv1 : v ≤ 2147483647) :
    Calls Tryz.prog 10 #[.pointer (some ⟨bg, 0, none⟩), .agg #[.int .i64 3, .int .i64 a, .int .i64 b, .int .i64 c, .string key, .int .i32 v, .int .i64 fr, .slice p pn pc]] w fun e w' => e = .returned (.bool true) ∧ Nx SR B0 bg bs bw t wid (m + 1) w own w' := by
  have HQ : Hid (PL SR) := Q
  clear Q
  obtain ⟨D, vl, vt, vd, L, T, PK, g⟩ := hx
  have HR : Hid (PR SR) := R
  have HG : Hid (GD SR w own B0 bg bs bw t wid m D vl vt vd L T PK) := g
  have hbg := lt_of_blk g.gb.game
  have HFR : Hid (∀ k, w.heap.size ≤ k → own k = .free) := hfree
  clear R g hfree
  go_enter Tryz.func10, Tryz.ntmps10
  go_upto_region 8 with fail
  obtain ⟨bx, hbx⟩ : ∃ bx, bx = w.heap.size := ⟨_, rfl⟩
  obtain ⟨w1, hw1⟩ : ∃ w1, w1 = w.alloc (.cells #[.int .i64 3, .int .i64 a, .int .i64 b, .int .i64 c, .string key, .int .i32 v, .int .i64 fr, .slice p pn pc] 33) := ⟨_, rfl⟩
  have HB1 : Hid (Below w.heap.size w w1) := by unfold Hid; rw [hw1]; exact below_alloc _ _
  have HBX : Hid (w1.heap[bx]? = some (.cells #[.int .i64 3, .int .i64 a, .int .i64 b, .int .i64 c, .string key, .int .i32 v, .int .i64 fr, .slice p pn pc] 33)) := by unfold Hid; rw [hw1, hbx]; exact heap_alloc_new _ _
  have HG1 : Hid (GD SR w1 own B0 bg bs bw t wid m D vl vt vd L T PK) := HG.out.below HR.out HB1.out
  have HBXE : Hid (bx = w.heap.size) := hbx
  have hbxw : bx < w1.heap.size := lt_of_blk HBX.out
  rw [← hw1, ← hbx]
  obtain ⟨own1, hown1⟩ : ∃ own1 : Ghost, own1 = fun k => if k = bx then .arg else own k := ⟨_, rfl⟩
  have HOW : Hid (∀ k, k ≠ bx → own1 k = own k) := fun k hk => by rw [hown1]; exact if_neg hk
  have HOX : Hid (own1 bx = .arg) := by unfold Hid; rw [hown1]; exact if_pos rfl
  have HGA : Hid (GD SR w1 own1 B0 bg bs bw t wid m D vl vt vd L T PK) := HG1.out.chg HR.out (Fr.refl _ _ _) fun k hk hf => by
    by_cases e : k = bx
    · exact absurd (HFR.out k (by have := HBXE.out; omega)) hf
    · exact HOW.out k e
  have HOM : Hid (own1 bg = .gm) := HGA.out.gb.gm
  have c0 : w1.cell? ⟨bg, 0, none⟩ = some (.pointer (some ⟨bs, 0, none⟩)) := by rw [cell_of_row _ _ _ _ _ _ HGA.out.gb.game]; rfl
  have c1 : w1.cell? ⟨bg, 1, none⟩ = some (.pointer (some ⟨bw, 0, none⟩)) := by rw [cell_of_row _ _ _ _ _ _ HGA.out.gb.game]; rfl
  have x1 : w1.cell? ⟨bx, 1, none⟩ = some (.int .i64 a) := by rw [cell_of_row _ _ _ _ _ _ HBX.out]; rfl
  have x2 : w1.cell? ⟨bx, 2, none⟩ = some (.int .i64 b) := by rw [cell_of_row _ _ _ _ _ _ HBX.out]; rfl
  have x3 : w1.cell? ⟨bx, 3, none⟩ = some (.int .i64 c) := by rw [cell_of_row _ _ _ _ _ _ HBX.out]; rfl
  have x4 : w1.cell? ⟨bx, 4, none⟩ = some (.string key) := by rw [cell_of_row _ _ _ _ _ _ HBX.out]; rfl
  have x5 : w1.cell? ⟨bx, 5, none⟩ = some (.int .i32 v) := by rw [cell_of_row _ _ _ _ _ _ HBX.out]; rfl
  clear hw1 hbx HBX hown1
  have hT0 : (fun w' : World => w'.cell? ⟨bg, 0, none⟩ = some (.pointer (some ⟨bs, 0, none⟩)) ∧ w'.cell? ⟨bx, 1, none⟩ = some (.int .i64 a) ∧ w'.cell? ⟨bx, 2, none⟩ = some (.int .i64 b) ∧ w'.cell? ⟨bx, 4, none⟩ = some (.string key) ∧ w'.cell? ⟨bx, 5, none⟩ = some (.int .i32 v)) w1.drew := ⟨c0, x1, x2, x4, x5⟩
  refine wp_region_held (S := fun w' : World => w'.cell? ⟨bg, 0, none⟩ = some (.pointer (some ⟨bs, 0, none⟩)) ∧ w'.cell? ⟨bx, 1, none⟩ = some (.int .i64 a) ∧ w'.cell? ⟨bx, 2, none⟩ = some (.int .i64 b) ∧ w'.cell? ⟨bx, 4, none⟩ = some (.string key) ∧ w'.cell? ⟨bx, 5, none⟩ = some (.int .i32 v)) mixed ?_
  refine wpAnyH_take (i := 0) (v := (.pointer (some ⟨bg, 0, none⟩))) rfl (by kernel_rfl) (by kernel_rfl) (by kernel_rfl) (fun _ _ _ h => h) (Or.inl ⟨by rfl, fun wx hx => by go_simp⟩) hT0 ?_
  try dsimp only
  try simp only [Act.put, List.getElem_toArray, List.getElem_cons_succ, List.getElem_cons_zero, List.setIfInBounds_toArray, List.set_cons_zero, List.set_cons_succ]
  refine wpAnyH_take (i := 1) (v := (.pointer (some ⟨bg, 0, none⟩))) rfl (by kernel_rfl) (by kernel_rfl) (by kernel_rfl) (fun _ _ _ h => h) (Or.inl ⟨by rfl, fun wx hx => by go_simp⟩) hT0 ?_
  try dsimp only
  try simp only [Act.put, List.getElem_toArray, List.getElem_cons_succ, List.getElem_cons_zero, List.setIfInBounds_toArray, List.set_cons_zero, List.set_cons_succ]
  refine wpAnyH_take (i := 2) (v := (.pointer (some ⟨bg, 0, none⟩))) rfl (by kernel_rfl) (by kernel_rfl) (by kernel_rfl) (fun _ _ _ h => h) (Or.inl ⟨by rfl, fun wx hx => by go_simp⟩) hT0 ?_
  try dsimp only
  try simp only [Act.put, List.getElem_toArray, List.getElem_cons_succ, List.getElem_cons_zero, List.setIfInBounds_toArray, List.set_cons_zero, List.set_cons_succ]
  refine wpAnyH_take (i := 3) (v := (.pointer (some ⟨bs, 0, none⟩))) rfl (by kernel_rfl) (by kernel_rfl) (by kernel_rfl) (fun _ _ _ h => h) (Or.inl ⟨by rfl, fun wx hx => by have hx1 := hx.1; go_simp⟩) hT0 ?_
  try dsimp only
  try simp only [Act.put, List.getElem_toArray, List.getElem_cons_succ, List.getElem_cons_zero, List.setIfInBounds_toArray, List.set_cons_zero, List.set_cons_succ]
  refine wpAnyH_take (i := 4) (v := (.pointer (some ⟨bx, 1, none⟩))) rfl (by kernel_rfl) (by kernel_rfl) (by kernel_rfl) (fun _ _ _ h => h) (Or.inl ⟨by rfl, fun wx hx => by go_simp⟩) hT0 ?_
  try dsimp only
  try simp only [Act.put, List.getElem_toArray, List.getElem_cons_succ, List.getElem_cons_zero, List.setIfInBounds_toArray, List.set_cons_zero, List.set_cons_succ]
  refine wpAnyH_take (i := 5) (v := (.int .i64 a)) rfl (by kernel_rfl) (by kernel_rfl) (by kernel_rfl) (fun _ _ _ h => h) (Or.inl ⟨by rfl, fun wx hx => by have hx1 := hx.2.1; go_simp⟩) hT0 ?_
  try dsimp only
  try simp only [Act.put, List.getElem_toArray, List.getElem_cons_succ, List.getElem_cons_zero, List.setIfInBounds_toArray, List.set_cons_zero, List.set_cons_succ]
  refine wpAnyH_take (i := 6) (v := (.pointer (some ⟨bx, 2, none⟩))) rfl (by kernel_rfl) (by kernel_rfl) (by kernel_rfl) (fun _ _ _ h => h) (Or.inl ⟨by rfl, fun wx hx => by go_simp⟩) hT0 ?_
  try dsimp only
  try simp only [Act.put, List.getElem_toArray, List.getElem_cons_succ, List.getElem_cons_zero, List.setIfInBounds_toArray, List.set_cons_zero, List.set_cons_succ]
  refine wpAnyH_take (i := 7) (v := (.int .i64 b)) rfl (by kernel_rfl) (by kernel_rfl) (by kernel_rfl) (fun _ _ _ h => h) (Or.inl ⟨by rfl, fun wx hx => by have hx1 := hx.2.2.1; go_simp⟩) hT0 ?_
  try dsimp only
  try simp only [Act.put, List.getElem_toArray, List.getElem_cons_succ, List.getElem_cons_zero, List.setIfInBounds_toArray, List.set_cons_zero, List.set_cons_succ]
  refine wpAnyH_take (i := 8) (v := (.pointer (some ⟨bx, 4, none⟩))) rfl (by kernel_rfl) (by kernel_rfl) (by kernel_rfl) (fun _ _ _ h => h) (Or.inl ⟨by rfl, fun wx hx => by go_simp⟩) hT0 ?_
  try dsimp only
  try simp only [Act.put, List.getElem_toArray, List.getElem_cons_succ, List.getElem_cons_zero, List.setIfInBounds_toArray, List.set_cons_zero, List.set_cons_succ]
  refine wpAnyH_take (i := 9) (v := (.string key)) rfl (by kernel_rfl) (by kernel_rfl) (by kernel_rfl) (fun _ _ _ h => h) (Or.inl ⟨by rfl, fun wx hx => by have hx1 := hx.2.2.2.1; go_simp⟩) hT0 ?_
  try dsimp only
  try simp only [Act.put, List.getElem_toArray, List.getElem_cons_succ, List.getElem_cons_zero, List.setIfInBounds_toArray, List.set_cons_zero, List.set_cons_succ]
  refine wpAnyH_take (i := 10) (v := (.pointer (some ⟨bx, 5, none⟩))) rfl (by kernel_rfl) (by kernel_rfl) (by kernel_rfl) (fun _ _ _ h => h) (Or.inl ⟨by rfl, fun wx hx => by go_simp⟩) hT0 ?_
  try dsimp only
  try simp only [Act.put, List.getElem_toArray, List.getElem_cons_succ, List.getElem_cons_zero, List.setIfInBounds_toArray, List.set_cons_zero, List.set_cons_succ]
  refine wpAnyH_take (i := 11) (v := (.int .i32 v)) rfl (by kernel_rfl) (by kernel_rfl) (by kernel_rfl) (fun _ _ _ h => h) (Or.inl ⟨by rfl, fun wx hx => by have hx1 := hx.2.2.2.2; go_simp⟩) hT0 ?_
  try dsimp only
  try simp only [Act.put, List.getElem_toArray, List.getElem_cons_succ, List.getElem_cons_zero, List.setIfInBounds_toArray, List.set_cons_zero, List.set_cons_succ]
  refine wpAnyH_all (rs := [12]) (by kernel_rfl) (by simp) ?_
  intro jj hjj
  simp only [List.mem_cons, List.not_mem_nil, or_false] at hjj
  subst hjj
  refine wpOp_of_wp rfl rfl ?_
  go_simp
  refine (HQ.out.ingest w1.drew own1 B0 bs t wid D (HR.out.below HGA.out.st below_drew) (HGA.out.di.mono (by omega)) HGA.out.gb.b0 a b key v ha hb hks hv0 hv1).mono ?_
  rintro e w2 ⟨rfl, own2, hst2, hsm2, hfr2⟩
  replace hfr2 : Fr own1 isSt w1 w2 := fr_drew hfr2
  replace hsm2 : Same w1 own1 own2 := hsm2
  have nb : own1 bg ≠ .free ∧ ¬ isSt (own1 bg) := by rw [HOM.out]; exact ⟨by simp, not_st (by simp)⟩
  have nx : own1 bx ≠ .free ∧ ¬ isSt (own1 bx) := by rw [HOX.out]; exact ⟨by simp, not_st (by simp)⟩
  have hT1 : (fun w' : World => w'.cell? ⟨bg, 0, none⟩ = some (.pointer (some ⟨bs, 0, none⟩)) ∧ w'.cell? ⟨bx, 1, none⟩ = some (.int .i64 a) ∧ w'.cell? ⟨bx, 2, none⟩ = some (.int .i64 b) ∧ w'.cell? ⟨bx, 4, none⟩ = some (.string key) ∧ w'.cell? ⟨bx, 5, none⟩ = some (.int .i32 v)) w2 := ⟨cell_fr hfr2 c0 nb.1 nb.2, cell_fr hfr2 x1 nx.1 nx.2, cell_fr hfr2 x2 nx.1 nx.2, cell_fr hfr2 x4 nx.1 nx.2, cell_fr hfr2 x5 nx.1 nx.2⟩
  refine ⟨hT1, ?_⟩
  try dsimp only
  try simp only [Act.put, List.getElem_toArray, List.getElem_cons_succ, List.getElem_cons_zero, List.setIfInBounds_toArray, List.set_cons_zero, List.set_cons_succ]
  refine wpAnyH_take (i := 13) (v := (.int .i64 (ingE t wid D a b key))) rfl (by kernel_rfl) (by kernel_rfl) (by kernel_rfl) (fun _ _ _ h => h) (Or.inl ⟨by rfl, fun wx hx => by go_simp⟩) hT1 ?_
  try dsimp only
  try simp only [Act.put, List.getElem_toArray, List.getElem_cons_succ, List.getElem_cons_zero, List.setIfInBounds_toArray, List.set_cons_zero, List.set_cons_succ]
  refine wpAnyH_done (by kernel_rfl) ?_ _
  have HST : Hid (SR w2 own2 B0 bs t wid (ingD t wid D a b key v) ∧ Same w1 own1 own2 ∧ Fr own1 isSt w1 w2) := ⟨hst2, hsm2, hfr2⟩
  have d1 : w2.cell? ⟨bg, 1, none⟩ = some (.pointer (some ⟨bw, 0, none⟩)) := cell_fr hfr2 c1 nb.1 nb.2
  have y1 : w2.cell? ⟨bx, 1, none⟩ = some (.int .i64 a) := cell_fr hfr2 x1 nx.1 nx.2
  have y2 : w2.cell? ⟨bx, 2, none⟩ = some (.int .i64 b) := cell_fr hfr2 x2 nx.1 nx.2
  have y4 : w2.cell? ⟨bx, 4, none⟩ = some (.string key) := cell_fr hfr2 x4 nx.1 nx.2
  have y5 : w2.cell? ⟨bx, 5, none⟩ = some (.int .i32 v) := cell_fr hfr2 x5 nx.1 nx.2
  have HEF : Hid (fitsI (ingE t wid D a b key)) := ingE_fit t wid D a b key
  obtain ⟨er, her⟩ : ∃ er, ingE t wid D a b key = er := ⟨_, rfl⟩
  have HER : Hid (ingE t wid D a b key = er) := her
  rw [her] at HEF ⊢
  clear hT0 hT1 hst2 hsm2 hfr2 nb nx her c0 c1 x1 x2 x3 x4 x5
  go_upto_region 10 with (go_at_call 19; refine (num_any _ _ HEF.out).mono ?_; rintro e wA ⟨rfl, hwA⟩; have hwA := hwA.symm; subst hwA)
  have hT0 : (fun w' : World => w'.cell? ⟨bg, 1, none⟩ = some (.pointer (some ⟨bw, 0, none⟩)) ∧ w'.cell? ⟨bx, 1, none⟩ = some (.int .i64 a) ∧ w'.cell? ⟨bx, 2, none⟩ = some (.int .i64 b) ∧ w'.cell? ⟨bx, 4, none⟩ = some (.string key) ∧ w'.cell? ⟨bx, 5, none⟩ = some (.int .i32 v)) w2.drew := ⟨d1, y1, y2, y4, y5⟩
  refine wp_region_held (S := fun w' : World => w'.cell? ⟨bg, 1, none⟩ = some (.pointer (some ⟨bw, 0, none⟩)) ∧ w'.cell? ⟨bx, 1, none⟩ = some (.int .i64 a) ∧ w'.cell? ⟨bx, 2, none⟩ = some (.int .i64 b) ∧ w'.cell? ⟨bx, 4, none⟩ = some (.string key) ∧ w'.cell? ⟨bx, 5, none⟩ = some (.int .i32 v)) mixed ?_
  refine wpAnyH_take (i := 0) (v := (.pointer (some ⟨bg, 0, none⟩))) rfl (by kernel_rfl) (by kernel_rfl) (by kernel_rfl) (fun _ _ _ h => h) (Or.inl ⟨by rfl, fun wx hx => by go_simp⟩) hT0 ?_
  try dsimp only
  try simp only [Act.put, List.getElem_toArray, List.getElem_cons_succ, List.getElem_cons_zero, List.setIfInBounds_toArray, List.set_cons_zero, List.set_cons_succ]
  refine wpAnyH_take (i := 1) (v := (.pointer (some ⟨bg, 0, none⟩))) rfl (by kernel_rfl) (by kernel_rfl) (by kernel_rfl) (fun _ _ _ h => h) (Or.inl ⟨by rfl, fun wx hx => by go_simp⟩) hT0 ?_
  try dsimp only
  try simp only [Act.put, List.getElem_toArray, List.getElem_cons_succ, List.getElem_cons_zero, List.setIfInBounds_toArray, List.set_cons_zero, List.set_cons_succ]
  refine wpAnyH_take (i := 2) (v := (.pointer (some ⟨bg, 1, none⟩))) rfl (by kernel_rfl) (by kernel_rfl) (by kernel_rfl) (fun _ _ _ h => h) (Or.inl ⟨by rfl, fun wx hx => by go_simp⟩) hT0 ?_
  try dsimp only
  try simp only [Act.put, List.getElem_toArray, List.getElem_cons_succ, List.getElem_cons_zero, List.setIfInBounds_toArray, List.set_cons_zero, List.set_cons_succ]
  refine wpAnyH_take (i := 3) (v := (.pointer (some ⟨bw, 0, none⟩))) rfl (by kernel_rfl) (by kernel_rfl) (by kernel_rfl) (fun _ _ _ h => h) (Or.inl ⟨by rfl, fun wx hx => by have hx1 := hx.1; go_simp⟩) hT0 ?_
  try dsimp only
  try simp only [Act.put, List.getElem_toArray, List.getElem_cons_succ, List.getElem_cons_zero, List.setIfInBounds_toArray, List.set_cons_zero, List.set_cons_succ]
  refine wpAnyH_take (i := 4) (v := (.pointer (some ⟨bx, 1, none⟩))) rfl (by kernel_rfl) (by kernel_rfl) (by kernel_rfl) (fun _ _ _ h => h) (Or.inl ⟨by rfl, fun wx hx => by go_simp⟩) hT0 ?_
  try dsimp only
  try simp only [Act.put, List.getElem_toArray, List.getElem_cons_succ, List.getElem_cons_zero, List.setIfInBounds_toArray, List.set_cons_zero, List.set_cons_succ]
  refine wpAnyH_take (i := 5) (v := (.int .i64 a)) rfl (by kernel_rfl) (by kernel_rfl) (by kernel_rfl) (fun _ _ _ h => h) (Or.inl ⟨by rfl, fun wx hx => by have hx1 := hx.2.1; go_simp⟩) hT0 ?_
  try dsimp only
  try simp only [Act.put, List.getElem_toArray, List.getElem_cons_succ, List.getElem_cons_zero, List.setIfInBounds_toArray, List.set_cons_zero, List.set_cons_succ]
  refine wpAnyH_take (i := 6) (v := (.pointer (some ⟨bx, 2, none⟩))) rfl (by kernel_rfl) (by kernel_rfl) (by kernel_rfl) (fun _ _ _ h => h) (Or.inl ⟨by rfl, fun wx hx => by go_simp⟩) hT0 ?_
  try dsimp only
  try simp only [Act.put, List.getElem_toArray, List.getElem_cons_succ, List.getElem_cons_zero, List.setIfInBounds_toArray, List.set_cons_zero, List.set_cons_succ]
  refine wpAnyH_take (i := 7) (v := (.int .i64 b)) rfl (by kernel_rfl) (by kernel_rfl) (by kernel_rfl) (fun _ _ _ h => h) (Or.inl ⟨by rfl, fun wx hx => by have hx1 := hx.2.2.1; go_simp⟩) hT0 ?_
  try dsimp only
  try simp only [Act.put, List.getElem_toArray, List.getElem_cons_succ, List.getElem_cons_zero, List.setIfInBounds_toArray, List.set_cons_zero, List.set_cons_succ]
  refine wpAnyH_take (i := 8) (v := (.pointer (some ⟨bx, 4, none⟩))) rfl (by kernel_rfl) (by kernel_rfl) (by kernel_rfl) (fun _ _ _ h => h) (Or.inl ⟨by rfl, fun wx hx => by go_simp⟩) hT0 ?_
  try dsimp only
  try simp only [Act.put, List.getElem_toArray, List.getElem_cons_succ, List.getElem_cons_zero, List.setIfInBounds_toArray, List.set_cons_zero, List.set_cons_succ]
  refine wpAnyH_take (i := 9) (v := (.string key)) rfl (by kernel_rfl) (by kernel_rfl) (by kernel_rfl) (fun _ _ _ h => h) (Or.inl ⟨by rfl, fun wx hx => by have hx1 := hx.2.2.2.1; go_simp⟩) hT0 ?_
  try dsimp only
  try simp only [Act.put, List.getElem_toArray, List.getElem_cons_succ, List.getElem_cons_zero, List.setIfInBounds_toArray, List.set_cons_zero, List.set_cons_succ]
  refine wpAnyH_take (i := 10) (v := (.pointer (some ⟨bx, 5, none⟩))) rfl (by kernel_rfl) (by kernel_rfl) (by kernel_rfl) (fun _ _ _ h => h) (Or.inl ⟨by rfl, fun wx hx => by go_simp⟩) hT0 ?_
  try dsimp only
  try simp only [Act.put, List.getElem_toArray, List.getElem_cons_succ, List.getElem_cons_zero, List.setIfInBounds_toArray, List.set_cons_zero, List.set_cons_succ]
  refine wpAnyH_take (i := 11) (v := (.int .i32 v)) rfl (by kernel_rfl) (by kernel_rfl) (by kernel_rfl) (fun _ _ _ h => h) (Or.inl ⟨by rfl, fun wx hx => by have hx1 := hx.2.2.2.2; go_simp⟩) hT0 ?_
  try dsimp only
  try simp only [Act.put, List.getElem_toArray, List.getElem_cons_succ, List.getElem_cons_zero, List.setIfInBounds_toArray, List.set_cons_zero, List.set_cons_succ]
  refine wpAnyH_all (rs := [12]) (by kernel_rfl) (by simp) ?_
  intro jj hjj
  simp only [List.mem_cons, List.not_mem_nil, or_false] at hjj
  subst hjj
  refine wpOp_of_wp rfl rfl ?_
  go_simp
  obtain ⟨xt, xn, C, W0⟩ := HGA.out.wd
  have W : WRep w2 own2 B0 bw t wid D xt xn C := W0.chg HST.out.2.2 HST.out.2.1 fun i => not_st (by simp)
  have hb0 : B0 ≤ w2.heap.size := Nat.le_trans HGA.out.gb.b0 HST.out.2.2.size
  refine (rIngest_any w2.drew own2 B0 bw t wid D xt xn C (W.below below_drew) a b key v hb0 hks hv0 hv1 (fun k d hk => by have := (HGA.out.di k d hk).1; omega)).mono ?_
  rintro e w3 ⟨rfl, own3, C3, hw3, hsm3, hfr3⟩
  replace hfr3 : Fr own2 isWd w2 w3 := fr_drew hfr3
  replace hsm3 : Same w2 own2 own3 := hsm3
  have nb : own2 bg ≠ .free ∧ ¬ isWd (own2 bg) := by rw [HST.out.2.1 bg (lt_of_blk HGA.out.gb.game) (by rw [HOM.out]; simp), HOM.out]; exact ⟨by simp, not_wd (by simp)⟩
  have nx : own2 bx ≠ .free ∧ ¬ isWd (own2 bx) := by rw [HST.out.2.1 bx hbxw (by rw [HOX.out]; simp), HOX.out]; exact ⟨by simp, not_wd (by simp)⟩
  have hT1 : (fun w' : World => w'.cell? ⟨bg, 1, none⟩ = some (.pointer (some ⟨bw, 0, none⟩)) ∧ w'.cell? ⟨bx, 1, none⟩ = some (.int .i64 a) ∧ w'.cell? ⟨bx, 2, none⟩ = some (.int .i64 b) ∧ w'.cell? ⟨bx, 4, none⟩ = some (.string key) ∧ w'.cell? ⟨bx, 5, none⟩ = some (.int .i32 v)) w3 := ⟨cell_fr hfr3 d1 nb.1 nb.2, cell_fr hfr3 y1 nx.1 nx.2, cell_fr hfr3 y2 nx.1 nx.2, cell_fr hfr3 y4 nx.1 nx.2, cell_fr hfr3 y5 nx.1 nx.2⟩
  rw [HER.out]
  refine ⟨hT1, ?_⟩
  try dsimp only
  try simp only [Act.put, List.getElem_toArray, List.getElem_cons_succ, List.getElem_cons_zero, List.setIfInBounds_toArray, List.set_cons_zero, List.set_cons_succ]
  refine wpAnyH_take (i := 13) (v := (.int .i64 er)) rfl (by kernel_rfl) (by kernel_rfl) (by kernel_rfl) (fun _ _ _ h => h) (Or.inl ⟨by rfl, fun wx hx => by go_simp⟩) hT1 ?_
  try dsimp only
  try simp only [Act.put, List.getElem_toArray, List.getElem_cons_succ, List.getElem_cons_zero, List.setIfInBounds_toArray, List.set_cons_zero, List.set_cons_succ]
  refine wpAnyH_done (by kernel_rfl) ?_ _
  have Z : Hid (Nx SR B0 bg bs bw t wid (m + 1) w own w3) := Nx.mk HB1.out (fun k hk => HOW.out k (by have := HBXE.out; omega)) ⟨_, vl, vt, vd, L, T, PK, HGA.out.both HR.out HST.out.1 HST.out.2.1 HST.out.2.2 hw3 hsm3 hfr3 (ingD_di HGA.out.di a b key v) (by omega)⟩ (HST.out.2.1.trans HST.out.2.2.size hsm3) (HST.out.2.2.stwd HST.out.2.1 hfr3)
  clear hT0 hT1 hw3 hsm3 hfr3 nb nx W W0 d1 y1 y2 y4 y5
  go_wp2
  go_ret
  exact ⟨rfl, Z.out⟩
set_option maxHeartbeats 4000000 in
theorem step4_any (SR : SRT) (R : PR SR) (Q : PL SR) (w : World) (own : Ghost) (B0 bg bs bw : Nat) (t : List Int) (wid : Int) (m : Nat) (hx : GX SR B0 bg bs bw t wid m w own) (hm : m < 100000000) (hfree : ∀ k, w.heap.size ≤ k → own k = .free) (a b c v fr : Int) (key : ByteArray) (p : Option Addr) (pn pc : Nat) (ha : fitsI a) (hb : fitsI b) (hks : key.size ≤ maxLen) (hv0 : -2147483648 ≤ v) (hv1 : v ≤ 2147483647) :
    Calls Tryz.prog 10 #[.pointer (some ⟨bg, 0, none⟩), .agg #[.int .i64 4, .int .i64 a, .int .i64 b, .int .i64 c, .string key, .int .i32 v, .int .i64 fr, .slice p pn pc]] w fun e w' => e = .returned (.bool true) ∧ Nx SR B0 bg bs bw t wid (m + 1) w own w' := by
  have HQ : Hid (PL SR) := Q
  clear Q
  obtain ⟨D, vl, vt, vd, L, T, PK, g⟩ := hx
  have HR : Hid (PR SR) := R
  have HG : Hid (GD SR w own B0 bg bs bw t wid m D vl vt vd L T PK) := g
  have hbg := lt_of_blk g.gb.game
  have HFR : Hid (∀ k, w.heap.size ≤ k → own k = .free) := hfree
  clear R g hfree
  go_enter Tryz.func10, Tryz.ntmps10
  go_upto_region 12 with fail
  obtain ⟨bx, hbx⟩ : ∃ bx, bx = w.heap.size := ⟨_, rfl⟩
  obtain ⟨w1, hw1⟩ : ∃ w1, w1 = w.alloc (.cells #[.int .i64 4, .int .i64 a, .int .i64 b, .int .i64 c, .string key, .int .i32 v, .int .i64 fr, .slice p pn pc] 33) := ⟨_, rfl⟩
  have HB1 : Hid (Below w.heap.size w w1) := by unfold Hid; rw [hw1]; exact below_alloc _ _
  have HBX : Hid (w1.heap[bx]? = some (.cells #[.int .i64 4, .int .i64 a, .int .i64 b, .int .i64 c, .string key, .int .i32 v, .int .i64 fr, .slice p pn pc] 33)) := by unfold Hid; rw [hw1, hbx]; exact heap_alloc_new _ _
  have HG1 : Hid (GD SR w1 own B0 bg bs bw t wid m D vl vt vd L T PK) := HG.out.below HR.out HB1.out
  have HBXE : Hid (bx = w.heap.size) := hbx
  have hbxw : bx < w1.heap.size := lt_of_blk HBX.out
  rw [← hw1, ← hbx]
  obtain ⟨own1, hown1⟩ : ∃ own1 : Ghost, own1 = fun k => if k = bx then .arg else own k := ⟨_, rfl⟩
  have HOW : Hid (∀ k, k ≠ bx → own1 k = own k) := fun k hk => by rw [hown1]; exact if_neg hk
  have HOX : Hid (own1 bx = .arg) := by unfold Hid; rw [hown1]; exact if_pos rfl
  have HGA : Hid (GD SR w1 own1 B0 bg bs bw t wid m D vl vt vd L T PK) := HG1.out.chg HR.out (Fr.refl _ _ _) fun k hk hf => by
    by_cases e : k = bx
    · exact absurd (HFR.out k (by have := HBXE.out; omega)) hf
    · exact HOW.out k e
  have HOM : Hid (own1 bg = .gm) := HGA.out.gb.gm
  have c0 : w1.cell? ⟨bg, 0, none⟩ = some (.pointer (some ⟨bs, 0, none⟩)) := by rw [cell_of_row _ _ _ _ _ _ HGA.out.gb.game]; rfl
  have c1 : w1.cell? ⟨bg, 1, none⟩ = some (.pointer (some ⟨bw, 0, none⟩)) := by rw [cell_of_row _ _ _ _ _ _ HGA.out.gb.game]; rfl
  have x1 : w1.cell? ⟨bx, 1, none⟩ = some (.int .i64 a) := by rw [cell_of_row _ _ _ _ _ _ HBX.out]; rfl
  have x2 : w1.cell? ⟨bx, 2, none⟩ = some (.int .i64 b) := by rw [cell_of_row _ _ _ _ _ _ HBX.out]; rfl
  have x3 : w1.cell? ⟨bx, 3, none⟩ = some (.int .i64 c) := by rw [cell_of_row _ _ _ _ _ _ HBX.out]; rfl
  have x4 : w1.cell? ⟨bx, 4, none⟩ = some (.string key) := by rw [cell_of_row _ _ _ _ _ _ HBX.out]; rfl
  have x5 : w1.cell? ⟨bx, 5, none⟩ = some (.int .i32 v) := by rw [cell_of_row _ _ _ _ _ _ HBX.out]; rfl
  clear hw1 hbx HBX hown1
  have hT0 : (fun w' : World => w'.cell? ⟨bg, 0, none⟩ = some (.pointer (some ⟨bs, 0, none⟩)) ∧ w'.cell? ⟨bx, 1, none⟩ = some (.int .i64 a) ∧ w'.cell? ⟨bx, 2, none⟩ = some (.int .i64 b)) w1.drew := ⟨c0, x1, x2⟩
  refine wp_region_held (S := fun w' : World => w'.cell? ⟨bg, 0, none⟩ = some (.pointer (some ⟨bs, 0, none⟩)) ∧ w'.cell? ⟨bx, 1, none⟩ = some (.int .i64 a) ∧ w'.cell? ⟨bx, 2, none⟩ = some (.int .i64 b)) mixed ?_
  refine wpAnyH_take (i := 0) (v := (.pointer (some ⟨bg, 0, none⟩))) rfl (by kernel_rfl) (by kernel_rfl) (by kernel_rfl) (fun _ _ _ h => h) (Or.inl ⟨by rfl, fun wx hx => by go_simp⟩) hT0 ?_
  try dsimp only
  try simp only [Act.put, List.getElem_toArray, List.getElem_cons_succ, List.getElem_cons_zero, List.setIfInBounds_toArray, List.set_cons_zero, List.set_cons_succ]
  refine wpAnyH_take (i := 1) (v := (.pointer (some ⟨bg, 0, none⟩))) rfl (by kernel_rfl) (by kernel_rfl) (by kernel_rfl) (fun _ _ _ h => h) (Or.inl ⟨by rfl, fun wx hx => by go_simp⟩) hT0 ?_
  try dsimp only
  try simp only [Act.put, List.getElem_toArray, List.getElem_cons_succ, List.getElem_cons_zero, List.setIfInBounds_toArray, List.set_cons_zero, List.set_cons_succ]
  refine wpAnyH_take (i := 2) (v := (.pointer (some ⟨bg, 0, none⟩))) rfl (by kernel_rfl) (by kernel_rfl) (by kernel_rfl) (fun _ _ _ h => h) (Or.inl ⟨by rfl, fun wx hx => by go_simp⟩) hT0 ?_
  try dsimp only
  try simp only [Act.put, List.getElem_toArray, List.getElem_cons_succ, List.getElem_cons_zero, List.setIfInBounds_toArray, List.set_cons_zero, List.set_cons_succ]
  refine wpAnyH_take (i := 3) (v := (.pointer (some ⟨bs, 0, none⟩))) rfl (by kernel_rfl) (by kernel_rfl) (by kernel_rfl) (fun _ _ _ h => h) (Or.inl ⟨by rfl, fun wx hx => by have hx1 := hx.1; go_simp⟩) hT0 ?_
  try dsimp only
  try simp only [Act.put, List.getElem_toArray, List.getElem_cons_succ, List.getElem_cons_zero, List.setIfInBounds_toArray, List.set_cons_zero, List.set_cons_succ]
  refine wpAnyH_take (i := 4) (v := (.pointer (some ⟨bx, 1, none⟩))) rfl (by kernel_rfl) (by kernel_rfl) (by kernel_rfl) (fun _ _ _ h => h) (Or.inl ⟨by rfl, fun wx hx => by go_simp⟩) hT0 ?_
  try dsimp only
  try simp only [Act.put, List.getElem_toArray, List.getElem_cons_succ, List.getElem_cons_zero, List.setIfInBounds_toArray, List.set_cons_zero, List.set_cons_succ]
  refine wpAnyH_take (i := 5) (v := (.int .i64 a)) rfl (by kernel_rfl) (by kernel_rfl) (by kernel_rfl) (fun _ _ _ h => h) (Or.inl ⟨by rfl, fun wx hx => by have hx1 := hx.2.1; go_simp⟩) hT0 ?_
  try dsimp only
  try simp only [Act.put, List.getElem_toArray, List.getElem_cons_succ, List.getElem_cons_zero, List.setIfInBounds_toArray, List.set_cons_zero, List.set_cons_succ]
  refine wpAnyH_take (i := 6) (v := (.pointer (some ⟨bx, 2, none⟩))) rfl (by kernel_rfl) (by kernel_rfl) (by kernel_rfl) (fun _ _ _ h => h) (Or.inl ⟨by rfl, fun wx hx => by go_simp⟩) hT0 ?_
  try dsimp only
  try simp only [Act.put, List.getElem_toArray, List.getElem_cons_succ, List.getElem_cons_zero, List.setIfInBounds_toArray, List.set_cons_zero, List.set_cons_succ]
  refine wpAnyH_take (i := 7) (v := (.int .i64 b)) rfl (by kernel_rfl) (by kernel_rfl) (by kernel_rfl) (fun _ _ _ h => h) (Or.inl ⟨by rfl, fun wx hx => by have hx1 := hx.2.2; go_simp⟩) hT0 ?_
  try dsimp only
  try simp only [Act.put, List.getElem_toArray, List.getElem_cons_succ, List.getElem_cons_zero, List.setIfInBounds_toArray, List.set_cons_zero, List.set_cons_succ]
  refine wpAnyH_all (rs := [8]) (by kernel_rfl) (by simp) ?_
  intro jj hjj
  simp only [List.mem_cons, List.not_mem_nil, or_false] at hjj
  subst hjj
  refine wpOp_of_wp rfl rfl ?_
  go_simp
  refine (HQ.out.advance w1.drew own1 B0 bs t wid D (HR.out.below HGA.out.st below_drew) (HGA.out.di.mono (by omega)) HGA.out.gb.b0 a b ha hb).mono ?_
  rintro e w2 ⟨rfl, own2, hst2, hsm2, hfr2⟩
  replace hfr2 : Fr own1 isSt w1 w2 := fr_drew hfr2
  replace hsm2 : Same w1 own1 own2 := hsm2
  have nb : own1 bg ≠ .free ∧ ¬ isSt (own1 bg) := by rw [HOM.out]; exact ⟨by simp, not_st (by simp)⟩
  have nx : own1 bx ≠ .free ∧ ¬ isSt (own1 bx) := by rw [HOX.out]; exact ⟨by simp, not_st (by simp)⟩
  have hT1 : (fun w' : World => w'.cell? ⟨bg, 0, none⟩ = some (.pointer (some ⟨bs, 0, none⟩)) ∧ w'.cell? ⟨bx, 1, none⟩ = some (.int .i64 a) ∧ w'.cell? ⟨bx, 2, none⟩ = some (.int .i64 b)) w2 := ⟨cell_fr hfr2 c0 nb.1 nb.2, cell_fr hfr2 x1 nx.1 nx.2, cell_fr hfr2 x2 nx.1 nx.2⟩
  refine ⟨hT1, ?_⟩
  try dsimp only
  try simp only [Act.put, List.getElem_toArray, List.getElem_cons_succ, List.getElem_cons_zero, List.setIfInBounds_toArray, List.set_cons_zero, List.set_cons_succ]
  refine wpAnyH_take (i := 9) (v := (.int .i64 (advE t wid D a b))) rfl (by kernel_rfl) (by kernel_rfl) (by kernel_rfl) (fun _ _ _ h => h) (Or.inl ⟨by rfl, fun wx hx => by go_simp⟩) hT1 ?_
  try dsimp only
  try simp only [Act.put, List.getElem_toArray, List.getElem_cons_succ, List.getElem_cons_zero, List.setIfInBounds_toArray, List.set_cons_zero, List.set_cons_succ]
  refine wpAnyH_done (by kernel_rfl) ?_ _
  have HST : Hid (SR w2 own2 B0 bs t wid (advD t wid D a b) ∧ Same w1 own1 own2 ∧ Fr own1 isSt w1 w2) := ⟨hst2, hsm2, hfr2⟩
  have d1 : w2.cell? ⟨bg, 1, none⟩ = some (.pointer (some ⟨bw, 0, none⟩)) := cell_fr hfr2 c1 nb.1 nb.2
  have y1 : w2.cell? ⟨bx, 1, none⟩ = some (.int .i64 a) := cell_fr hfr2 x1 nx.1 nx.2
  have y2 : w2.cell? ⟨bx, 2, none⟩ = some (.int .i64 b) := cell_fr hfr2 x2 nx.1 nx.2
  have HEF : Hid (fitsI (advE t wid D a b)) := advE_fit t wid D a b
  obtain ⟨er, her⟩ : ∃ er, advE t wid D a b = er := ⟨_, rfl⟩
  have HER : Hid (advE t wid D a b = er) := her
  rw [her] at HEF ⊢
  clear hT0 hT1 hst2 hsm2 hfr2 nb nx her c0 c1 x1 x2 x3 x4 x5
  go_upto_region 14 with (go_at_call 19; refine (num_any _ _ HEF.out).mono ?_; rintro e wA ⟨rfl, hwA⟩; have hwA := hwA.symm; subst hwA)
  have hT0 : (fun w' : World => w'.cell? ⟨bg, 1, none⟩ = some (.pointer (some ⟨bw, 0, none⟩)) ∧ w'.cell? ⟨bx, 1, none⟩ = some (.int .i64 a) ∧ w'.cell? ⟨bx, 2, none⟩ = some (.int .i64 b)) w2.drew := ⟨d1, y1, y2⟩
  refine wp_region_held (S := fun w' : World => w'.cell? ⟨bg, 1, none⟩ = some (.pointer (some ⟨bw, 0, none⟩)) ∧ w'.cell? ⟨bx, 1, none⟩ = some (.int .i64 a) ∧ w'.cell? ⟨bx, 2, none⟩ = some (.int .i64 b)) mixed ?_
  refine wpAnyH_take (i := 0) (v := (.pointer (some ⟨bg, 0, none⟩))) rfl (by kernel_rfl) (by kernel_rfl) (by kernel_rfl) (fun _ _ _ h => h) (Or.inl ⟨by rfl, fun wx hx => by go_simp⟩) hT0 ?_
  try dsimp only
  try simp only [Act.put, List.getElem_toArray, List.getElem_cons_succ, List.getElem_cons_zero, List.setIfInBounds_toArray, List.set_cons_zero, List.set_cons_succ]
  refine wpAnyH_take (i := 1) (v := (.pointer (some ⟨bg, 0, none⟩))) rfl (by kernel_rfl) (by kernel_rfl) (by kernel_rfl) (fun _ _ _ h => h) (Or.inl ⟨by rfl, fun wx hx => by go_simp⟩) hT0 ?_
  try dsimp only
  try simp only [Act.put, List.getElem_toArray, List.getElem_cons_succ, List.getElem_cons_zero, List.setIfInBounds_toArray, List.set_cons_zero, List.set_cons_succ]
  refine wpAnyH_take (i := 2) (v := (.pointer (some ⟨bg, 1, none⟩))) rfl (by kernel_rfl) (by kernel_rfl) (by kernel_rfl) (fun _ _ _ h => h) (Or.inl ⟨by rfl, fun wx hx => by go_simp⟩) hT0 ?_
  try dsimp only
  try simp only [Act.put, List.getElem_toArray, List.getElem_cons_succ, List.getElem_cons_zero, List.setIfInBounds_toArray, List.set_cons_zero, List.set_cons_succ]
  refine wpAnyH_take (i := 3) (v := (.pointer (some ⟨bw, 0, none⟩))) rfl (by kernel_rfl) (by kernel_rfl) (by kernel_rfl) (fun _ _ _ h => h) (Or.inl ⟨by rfl, fun wx hx => by have hx1 := hx.1; go_simp⟩) hT0 ?_
  try dsimp only
  try simp only [Act.put, List.getElem_toArray, List.getElem_cons_succ, List.getElem_cons_zero, List.setIfInBounds_toArray, List.set_cons_zero, List.set_cons_succ]
  refine wpAnyH_take (i := 4) (v := (.pointer (some ⟨bx, 1, none⟩))) rfl (by kernel_rfl) (by kernel_rfl) (by kernel_rfl) (fun _ _ _ h => h) (Or.inl ⟨by rfl, fun wx hx => by go_simp⟩) hT0 ?_
  try dsimp only
  try simp only [Act.put, List.getElem_toArray, List.getElem_cons_succ, List.getElem_cons_zero, List.setIfInBounds_toArray, List.set_cons_zero, List.set_cons_succ]
  refine wpAnyH_take (i := 5) (v := (.int .i64 a)) rfl (by kernel_rfl) (by kernel_rfl) (by kernel_rfl) (fun _ _ _ h => h) (Or.inl ⟨by rfl, fun wx hx => by have hx1 := hx.2.1; go_simp⟩) hT0 ?_
  try dsimp only
  try simp only [Act.put, List.getElem_toArray, List.getElem_cons_succ, List.getElem_cons_zero, List.setIfInBounds_toArray, List.set_cons_zero, List.set_cons_succ]
  refine wpAnyH_take (i := 6) (v := (.pointer (some ⟨bx, 2, none⟩))) rfl (by kernel_rfl) (by kernel_rfl) (by kernel_rfl) (fun _ _ _ h => h) (Or.inl ⟨by rfl, fun wx hx => by go_simp⟩) hT0 ?_
  try dsimp only
  try simp only [Act.put, List.getElem_toArray, List.getElem_cons_succ, List.getElem_cons_zero, List.setIfInBounds_toArray, List.set_cons_zero, List.set_cons_succ]
  refine wpAnyH_take (i := 7) (v := (.int .i64 b)) rfl (by kernel_rfl) (by kernel_rfl) (by kernel_rfl) (fun _ _ _ h => h) (Or.inl ⟨by rfl, fun wx hx => by have hx1 := hx.2.2; go_simp⟩) hT0 ?_
  try dsimp only
  try simp only [Act.put, List.getElem_toArray, List.getElem_cons_succ, List.getElem_cons_zero, List.setIfInBounds_toArray, List.set_cons_zero, List.set_cons_succ]
  refine wpAnyH_all (rs := [8]) (by kernel_rfl) (by simp) ?_
  intro jj hjj
  simp only [List.mem_cons, List.not_mem_nil, or_false] at hjj
  subst hjj
  refine wpOp_of_wp rfl rfl ?_
  go_simp
  obtain ⟨xt, xn, C, W0⟩ := HGA.out.wd
  have W : WRep w2 own2 B0 bw t wid D xt xn C := W0.chg HST.out.2.2 HST.out.2.1 fun i => not_st (by simp)
  have hb0 : B0 ≤ w2.heap.size := Nat.le_trans HGA.out.gb.b0 HST.out.2.2.size
  refine (rAdvance_any w2.drew own2 B0 bw t wid D xt xn C (W.below below_drew) a b).mono ?_
  rintro e w3 ⟨rfl, own3, C3, hw3, hsm3, hfr3⟩
  replace hfr3 : Fr own2 isWd w2 w3 := fr_drew hfr3
  replace hsm3 : Same w2 own2 own3 := hsm3
  have nb : own2 bg ≠ .free ∧ ¬ isWd (own2 bg) := by rw [HST.out.2.1 bg (lt_of_blk HGA.out.gb.game) (by rw [HOM.out]; simp), HOM.out]; exact ⟨by simp, not_wd (by simp)⟩
  have nx : own2 bx ≠ .free ∧ ¬ isWd (own2 bx) := by rw [HST.out.2.1 bx hbxw (by rw [HOX.out]; simp), HOX.out]; exact ⟨by simp, not_wd (by simp)⟩
  have hT1 : (fun w' : World => w'.cell? ⟨bg, 1, none⟩ = some (.pointer (some ⟨bw, 0, none⟩)) ∧ w'.cell? ⟨bx, 1, none⟩ = some (.int .i64 a) ∧ w'.cell? ⟨bx, 2, none⟩ = some (.int .i64 b)) w3 := ⟨cell_fr hfr3 d1 nb.1 nb.2, cell_fr hfr3 y1 nx.1 nx.2, cell_fr hfr3 y2 nx.1 nx.2⟩
  rw [HER.out]
  refine ⟨hT1, ?_⟩
  try dsimp only
  try simp only [Act.put, List.getElem_toArray, List.getElem_cons_succ, List.getElem_cons_zero, List.setIfInBounds_toArray, List.set_cons_zero, List.set_cons_succ]
  refine wpAnyH_take (i := 9) (v := (.int .i64 er)) rfl (by kernel_rfl) (by kernel_rfl) (by kernel_rfl) (fun _ _ _ h => h) (Or.inl ⟨by rfl, fun wx hx => by go_simp⟩) hT1 ?_
  try dsimp only
  try simp only [Act.put, List.getElem_toArray, List.getElem_cons_succ, List.getElem_cons_zero, List.setIfInBounds_toArray, List.set_cons_zero, List.set_cons_succ]
  refine wpAnyH_done (by kernel_rfl) ?_ _
  have Z : Hid (Nx SR B0 bg bs bw t wid (m + 1) w own w3) := Nx.mk HB1.out (fun k hk => HOW.out k (by have := HBXE.out; omega)) ⟨_, vl, vt, vd, L, T, PK, HGA.out.both HR.out HST.out.1 HST.out.2.1 HST.out.2.2 hw3 hsm3 hfr3 ((advD_di HGA.out.di a b).mono (by omega)) (by omega)⟩ (HST.out.2.1.trans HST.out.2.2.size hsm3) (HST.out.2.2.stwd HST.out.2.1 hfr3)
  clear hT0 hT1 hw3 hsm3 hfr3 nb nx W W0 d1 y1 y2
  go_wp2
  go_ret
  exact ⟨rfl, Z.out⟩
set_option maxHeartbeats 4000000 in
theorem step5_any (SR : SRT) (R : PR SR) (Q : PS SR) (w : World) (own : Ghost) (B0 bg bs bw : Nat) (t : List Int) (wid : Int) (m : Nat) (hx : GX SR B0 bg bs bw t wid m w own) (hm : m < 100000000) (hfree : ∀ k, w.heap.size ≤ k → own k = .free) (a b c v fr : Int) (key : ByteArray) (p : Option Addr) (pn pc : Nat) (ha : fitsI a) (hb : fitsI b) (hks : key.size ≤ maxLen) (hv0 : -2147483648 ≤ v) (hv1 : v ≤ 2147483647) :
    Calls Tryz.prog 10 #[.pointer (some ⟨bg, 0, none⟩), .agg #[.int .i64 5, .int .i64 a, .int .i64 b, .int .i64 c, .string key, .int .i32 v, .int .i64 fr, .slice p pn pc]] w fun e w' => e = .returned (.bool true) ∧ Nx SR B0 bg bs bw t wid (m + 1) w own w' := by
  have HQ : Hid (PS SR) := Q
  clear Q
  obtain ⟨D, vl, vt, vd, L, T, PK, g⟩ := hx
  have HR : Hid (PR SR) := R
  have HG : Hid (GD SR w own B0 bg bs bw t wid m D vl vt vd L T PK) := g
  have hbg := lt_of_blk g.gb.game
  have HFR : Hid (∀ k, w.heap.size ≤ k → own k = .free) := hfree
  clear R g hfree
  go_enter Tryz.func10, Tryz.ntmps10
  go_upto_region 16 with fail
  obtain ⟨bx, hbx⟩ : ∃ bx, bx = w.heap.size := ⟨_, rfl⟩
  obtain ⟨w1, hw1⟩ : ∃ w1, w1 = w.alloc (.cells #[.int .i64 5, .int .i64 a, .int .i64 b, .int .i64 c, .string key, .int .i32 v, .int .i64 fr, .slice p pn pc] 33) := ⟨_, rfl⟩
  have HB1 : Hid (Below w.heap.size w w1) := by unfold Hid; rw [hw1]; exact below_alloc _ _
  have HBX : Hid (w1.heap[bx]? = some (.cells #[.int .i64 5, .int .i64 a, .int .i64 b, .int .i64 c, .string key, .int .i32 v, .int .i64 fr, .slice p pn pc] 33)) := by unfold Hid; rw [hw1, hbx]; exact heap_alloc_new _ _
  have HG1 : Hid (GD SR w1 own B0 bg bs bw t wid m D vl vt vd L T PK) := HG.out.below HR.out HB1.out
  have HBXE : Hid (bx = w.heap.size) := hbx
  have hbxw : bx < w1.heap.size := lt_of_blk HBX.out
  rw [← hw1, ← hbx]
  obtain ⟨own1, hown1⟩ : ∃ own1 : Ghost, own1 = fun k => if k = bx then .arg else own k := ⟨_, rfl⟩
  have HOW : Hid (∀ k, k ≠ bx → own1 k = own k) := fun k hk => by rw [hown1]; exact if_neg hk
  have HOX : Hid (own1 bx = .arg) := by unfold Hid; rw [hown1]; exact if_pos rfl
  have HGA : Hid (GD SR w1 own1 B0 bg bs bw t wid m D vl vt vd L T PK) := HG1.out.chg HR.out (Fr.refl _ _ _) fun k hk hf => by
    by_cases e : k = bx
    · exact absurd (HFR.out k (by have := HBXE.out; omega)) hf
    · exact HOW.out k e
  have HOM : Hid (own1 bg = .gm) := HGA.out.gb.gm
  have c0 : w1.cell? ⟨bg, 0, none⟩ = some (.pointer (some ⟨bs, 0, none⟩)) := by rw [cell_of_row _ _ _ _ _ _ HGA.out.gb.game]; rfl
  have c1 : w1.cell? ⟨bg, 1, none⟩ = some (.pointer (some ⟨bw, 0, none⟩)) := by rw [cell_of_row _ _ _ _ _ _ HGA.out.gb.game]; rfl
  have x1 : w1.cell? ⟨bx, 1, none⟩ = some (.int .i64 a) := by rw [cell_of_row _ _ _ _ _ _ HBX.out]; rfl
  have x2 : w1.cell? ⟨bx, 2, none⟩ = some (.int .i64 b) := by rw [cell_of_row _ _ _ _ _ _ HBX.out]; rfl
  have x3 : w1.cell? ⟨bx, 3, none⟩ = some (.int .i64 c) := by rw [cell_of_row _ _ _ _ _ _ HBX.out]; rfl
  have x4 : w1.cell? ⟨bx, 4, none⟩ = some (.string key) := by rw [cell_of_row _ _ _ _ _ _ HBX.out]; rfl
  have x5 : w1.cell? ⟨bx, 5, none⟩ = some (.int .i32 v) := by rw [cell_of_row _ _ _ _ _ _ HBX.out]; rfl
  clear hw1 hbx HBX hown1
  have hT0 : (fun w' : World => w'.cell? ⟨bg, 0, none⟩ = some (.pointer (some ⟨bs, 0, none⟩)) ∧ w'.cell? ⟨bx, 1, none⟩ = some (.int .i64 a)) w1.drew := ⟨c0, x1⟩
  refine wp_region_held (S := fun w' : World => w'.cell? ⟨bg, 0, none⟩ = some (.pointer (some ⟨bs, 0, none⟩)) ∧ w'.cell? ⟨bx, 1, none⟩ = some (.int .i64 a)) mixed ?_
  refine wpAnyH_take (i := 0) (v := (.pointer (some ⟨bg, 0, none⟩))) rfl (by kernel_rfl) (by kernel_rfl) (by kernel_rfl) (fun _ _ _ h => h) (Or.inl ⟨by rfl, fun wx hx => by go_simp⟩) hT0 ?_
  try dsimp only
  try simp only [Act.put, List.getElem_toArray, List.getElem_cons_succ, List.getElem_cons_zero, List.setIfInBounds_toArray, List.set_cons_zero, List.set_cons_succ]
  refine wpAnyH_take (i := 1) (v := (.pointer (some ⟨bg, 0, none⟩))) rfl (by kernel_rfl) (by kernel_rfl) (by kernel_rfl) (fun _ _ _ h => h) (Or.inl ⟨by rfl, fun wx hx => by go_simp⟩) hT0 ?_
  try dsimp only
  try simp only [Act.put, List.getElem_toArray, List.getElem_cons_succ, List.getElem_cons_zero, List.setIfInBounds_toArray, List.set_cons_zero, List.set_cons_succ]
  refine wpAnyH_take (i := 2) (v := (.pointer (some ⟨bg, 0, none⟩))) rfl (by kernel_rfl) (by kernel_rfl) (by kernel_rfl) (fun _ _ _ h => h) (Or.inl ⟨by rfl, fun wx hx => by go_simp⟩) hT0 ?_
  try dsimp only
  try simp only [Act.put, List.getElem_toArray, List.getElem_cons_succ, List.getElem_cons_zero, List.setIfInBounds_toArray, List.set_cons_zero, List.set_cons_succ]
  refine wpAnyH_take (i := 3) (v := (.pointer (some ⟨bs, 0, none⟩))) rfl (by kernel_rfl) (by kernel_rfl) (by kernel_rfl) (fun _ _ _ h => h) (Or.inl ⟨by rfl, fun wx hx => by have hx1 := hx.1; go_simp⟩) hT0 ?_
  try dsimp only
  try simp only [Act.put, List.getElem_toArray, List.getElem_cons_succ, List.getElem_cons_zero, List.setIfInBounds_toArray, List.set_cons_zero, List.set_cons_succ]
  refine wpAnyH_take (i := 4) (v := (.pointer (some ⟨bx, 1, none⟩))) rfl (by kernel_rfl) (by kernel_rfl) (by kernel_rfl) (fun _ _ _ h => h) (Or.inl ⟨by rfl, fun wx hx => by go_simp⟩) hT0 ?_
  try dsimp only
  try simp only [Act.put, List.getElem_toArray, List.getElem_cons_succ, List.getElem_cons_zero, List.setIfInBounds_toArray, List.set_cons_zero, List.set_cons_succ]
  refine wpAnyH_take (i := 5) (v := (.int .i64 a)) rfl (by kernel_rfl) (by kernel_rfl) (by kernel_rfl) (fun _ _ _ h => h) (Or.inl ⟨by rfl, fun wx hx => by have hx1 := hx.2; go_simp⟩) hT0 ?_
  try dsimp only
  try simp only [Act.put, List.getElem_toArray, List.getElem_cons_succ, List.getElem_cons_zero, List.setIfInBounds_toArray, List.set_cons_zero, List.set_cons_succ]
  refine wpAnyH_all (rs := [6]) (by kernel_rfl) (by simp) ?_
  intro jj hjj
  simp only [List.mem_cons, List.not_mem_nil, or_false] at hjj
  subst hjj
  refine wpOp_of_wp rfl rfl ?_
  go_simp
  refine (HQ.out.sync w1.drew own1 B0 bs t wid D (HR.out.below HGA.out.st below_drew) (HGA.out.di.mono (by omega)) HGA.out.gb.b0 a ha).mono ?_
  rintro e w2 ⟨rfl, own2, hst2, hsm2, hfr2⟩
  replace hfr2 : Fr own1 isSt w1 w2 := fr_drew hfr2
  replace hsm2 : Same w1 own1 own2 := hsm2
  have nb : own1 bg ≠ .free ∧ ¬ isSt (own1 bg) := by rw [HOM.out]; exact ⟨by simp, not_st (by simp)⟩
  have nx : own1 bx ≠ .free ∧ ¬ isSt (own1 bx) := by rw [HOX.out]; exact ⟨by simp, not_st (by simp)⟩
  have hT1 : (fun w' : World => w'.cell? ⟨bg, 0, none⟩ = some (.pointer (some ⟨bs, 0, none⟩)) ∧ w'.cell? ⟨bx, 1, none⟩ = some (.int .i64 a)) w2 := ⟨cell_fr hfr2 c0 nb.1 nb.2, cell_fr hfr2 x1 nx.1 nx.2⟩
  refine ⟨hT1, ?_⟩
  try dsimp only
  try simp only [Act.put, List.getElem_toArray, List.getElem_cons_succ, List.getElem_cons_zero, List.setIfInBounds_toArray, List.set_cons_zero, List.set_cons_succ]
  refine wpAnyH_take (i := 7) (v := (.int .i64 (ndE t a))) rfl (by kernel_rfl) (by kernel_rfl) (by kernel_rfl) (fun _ _ _ h => h) (Or.inl ⟨by rfl, fun wx hx => by go_simp⟩) hT1 ?_
  try dsimp only
  try simp only [Act.put, List.getElem_toArray, List.getElem_cons_succ, List.getElem_cons_zero, List.setIfInBounds_toArray, List.set_cons_zero, List.set_cons_succ]
  refine wpAnyH_done (by kernel_rfl) ?_ _
  have HST : Hid (SR w2 own2 B0 bs t wid (synD t D a) ∧ Same w1 own1 own2 ∧ Fr own1 isSt w1 w2) := ⟨hst2, hsm2, hfr2⟩
  have d1 : w2.cell? ⟨bg, 1, none⟩ = some (.pointer (some ⟨bw, 0, none⟩)) := cell_fr hfr2 c1 nb.1 nb.2
  have y1 : w2.cell? ⟨bx, 1, none⟩ = some (.int .i64 a) := cell_fr hfr2 x1 nx.1 nx.2
  have HEF : Hid (fitsI (ndE t a)) := ndE_fit t a
  obtain ⟨er, her⟩ : ∃ er, ndE t a = er := ⟨_, rfl⟩
  have HER : Hid (ndE t a = er) := her
  rw [her] at HEF ⊢
  clear hT0 hT1 hst2 hsm2 hfr2 nb nx her c0 c1 x1 x2 x3 x4 x5
  go_upto_region 18 with (go_at_call 19; refine (num_any _ _ HEF.out).mono ?_; rintro e wA ⟨rfl, hwA⟩; have hwA := hwA.symm; subst hwA)
  have hT0 : (fun w' : World => w'.cell? ⟨bg, 1, none⟩ = some (.pointer (some ⟨bw, 0, none⟩)) ∧ w'.cell? ⟨bx, 1, none⟩ = some (.int .i64 a)) w2.drew := ⟨d1, y1⟩
  refine wp_region_held (S := fun w' : World => w'.cell? ⟨bg, 1, none⟩ = some (.pointer (some ⟨bw, 0, none⟩)) ∧ w'.cell? ⟨bx, 1, none⟩ = some (.int .i64 a)) mixed ?_
  refine wpAnyH_take (i := 0) (v := (.pointer (some ⟨bg, 0, none⟩))) rfl (by kernel_rfl) (by kernel_rfl) (by kernel_rfl) (fun _ _ _ h => h) (Or.inl ⟨by rfl, fun wx hx => by go_simp⟩) hT0 ?_
  try dsimp only
  try simp only [Act.put, List.getElem_toArray, List.getElem_cons_succ, List.getElem_cons_zero, List.setIfInBounds_toArray, List.set_cons_zero, List.set_cons_succ]
  refine wpAnyH_take (i := 1) (v := (.pointer (some ⟨bg, 0, none⟩))) rfl (by kernel_rfl) (by kernel_rfl) (by kernel_rfl) (fun _ _ _ h => h) (Or.inl ⟨by rfl, fun wx hx => by go_simp⟩) hT0 ?_
  try dsimp only
  try simp only [Act.put, List.getElem_toArray, List.getElem_cons_succ, List.getElem_cons_zero, List.setIfInBounds_toArray, List.set_cons_zero, List.set_cons_succ]
  refine wpAnyH_take (i := 2) (v := (.pointer (some ⟨bg, 1, none⟩))) rfl (by kernel_rfl) (by kernel_rfl) (by kernel_rfl) (fun _ _ _ h => h) (Or.inl ⟨by rfl, fun wx hx => by go_simp⟩) hT0 ?_
  try dsimp only
  try simp only [Act.put, List.getElem_toArray, List.getElem_cons_succ, List.getElem_cons_zero, List.setIfInBounds_toArray, List.set_cons_zero, List.set_cons_succ]
  refine wpAnyH_take (i := 3) (v := (.pointer (some ⟨bw, 0, none⟩))) rfl (by kernel_rfl) (by kernel_rfl) (by kernel_rfl) (fun _ _ _ h => h) (Or.inl ⟨by rfl, fun wx hx => by have hx1 := hx.1; go_simp⟩) hT0 ?_
  try dsimp only
  try simp only [Act.put, List.getElem_toArray, List.getElem_cons_succ, List.getElem_cons_zero, List.setIfInBounds_toArray, List.set_cons_zero, List.set_cons_succ]
  refine wpAnyH_take (i := 4) (v := (.pointer (some ⟨bx, 1, none⟩))) rfl (by kernel_rfl) (by kernel_rfl) (by kernel_rfl) (fun _ _ _ h => h) (Or.inl ⟨by rfl, fun wx hx => by go_simp⟩) hT0 ?_
  try dsimp only
  try simp only [Act.put, List.getElem_toArray, List.getElem_cons_succ, List.getElem_cons_zero, List.setIfInBounds_toArray, List.set_cons_zero, List.set_cons_succ]
  refine wpAnyH_take (i := 5) (v := (.int .i64 a)) rfl (by kernel_rfl) (by kernel_rfl) (by kernel_rfl) (fun _ _ _ h => h) (Or.inl ⟨by rfl, fun wx hx => by have hx1 := hx.2; go_simp⟩) hT0 ?_
  try dsimp only
  try simp only [Act.put, List.getElem_toArray, List.getElem_cons_succ, List.getElem_cons_zero, List.setIfInBounds_toArray, List.set_cons_zero, List.set_cons_succ]
  refine wpAnyH_all (rs := [6]) (by kernel_rfl) (by simp) ?_
  intro jj hjj
  simp only [List.mem_cons, List.not_mem_nil, or_false] at hjj
  subst hjj
  refine wpOp_of_wp rfl rfl ?_
  go_simp
  obtain ⟨xt, xn, C, W0⟩ := HGA.out.wd
  have W : WRep w2 own2 B0 bw t wid D xt xn C := W0.chg HST.out.2.2 HST.out.2.1 fun i => not_st (by simp)
  have hb0 : B0 ≤ w2.heap.size := Nat.le_trans HGA.out.gb.b0 HST.out.2.2.size
  refine (rSync_any w2.drew own2 B0 bw t wid D xt xn C (W.below below_drew) a hb0 (fun k d hk => by have := HGA.out.di k d hk; omega)).mono ?_
  rintro e w3 ⟨rfl, own3, C3, hw3, hsm3, hfr3⟩
  replace hfr3 : Fr own2 isWd w2 w3 := fr_drew hfr3
  replace hsm3 : Same w2 own2 own3 := hsm3
  have nb : own2 bg ≠ .free ∧ ¬ isWd (own2 bg) := by rw [HST.out.2.1 bg (lt_of_blk HGA.out.gb.game) (by rw [HOM.out]; simp), HOM.out]; exact ⟨by simp, not_wd (by simp)⟩
  have nx : own2 bx ≠ .free ∧ ¬ isWd (own2 bx) := by rw [HST.out.2.1 bx hbxw (by rw [HOX.out]; simp), HOX.out]; exact ⟨by simp, not_wd (by simp)⟩
  have hT1 : (fun w' : World => w'.cell? ⟨bg, 1, none⟩ = some (.pointer (some ⟨bw, 0, none⟩)) ∧ w'.cell? ⟨bx, 1, none⟩ = some (.int .i64 a)) w3 := ⟨cell_fr hfr3 d1 nb.1 nb.2, cell_fr hfr3 y1 nx.1 nx.2⟩
  rw [HER.out]
  refine ⟨hT1, ?_⟩
  try dsimp only
  try simp only [Act.put, List.getElem_toArray, List.getElem_cons_succ, List.getElem_cons_zero, List.setIfInBounds_toArray, List.set_cons_zero, List.set_cons_succ]
  refine wpAnyH_take (i := 7) (v := (.int .i64 er)) rfl (by kernel_rfl) (by kernel_rfl) (by kernel_rfl) (fun _ _ _ h => h) (Or.inl ⟨by rfl, fun wx hx => by go_simp⟩) hT1 ?_
  try dsimp only
  try simp only [Act.put, List.getElem_toArray, List.getElem_cons_succ, List.getElem_cons_zero, List.setIfInBounds_toArray, List.set_cons_zero, List.set_cons_succ]
  refine wpAnyH_done (by kernel_rfl) ?_ _
  have Z : Hid (Nx SR B0 bg bs bw t wid (m + 1) w own w3) := Nx.mk HB1.out (fun k hk => HOW.out k (by have := HBXE.out; omega)) ⟨_, vl, vt, vd, L, T, PK, HGA.out.both HR.out HST.out.1 HST.out.2.1 HST.out.2.2 hw3 hsm3 hfr3 ((synD_di HGA.out.di a).mono (by omega)) (by omega)⟩ (HST.out.2.1.trans HST.out.2.2.size hsm3) (HST.out.2.2.stwd HST.out.2.1 hfr3)
  clear hT0 hT1 hw3 hsm3 hfr3 nb nx W W0 d1 y1
  go_wp2
  go_ret
  exact ⟨rfl, Z.out⟩
set_option maxHeartbeats 4000000 in
theorem step6_any (SR : SRT) (R : PR SR) (Q : PS SR) (w : World) (own : Ghost) (B0 bg bs bw : Nat) (t : List Int) (wid : Int) (m : Nat) (hx : GX SR B0 bg bs bw t wid m w own) (hm : m < 100000000) (hfree : ∀ k, w.heap.size ≤ k → own k = .free) (a b c v fr : Int) (key : ByteArray) (p : Option Addr) (pn pc : Nat) (ha : fitsI a) (hb : fitsI b) (hks : key.size ≤ maxLen) (hv0 : -2147483648 ≤ v) (hv1 : v ≤ 2147483647) :
    Calls Tryz.prog 10 #[.pointer (some ⟨bg, 0, none⟩), .agg #[.int .i64 6, .int .i64 a, .int .i64 b, .int .i64 c, .string key, .int .i32 v, .int .i64 fr, .slice p pn pc]] w fun e w' => e = .returned (.bool true) ∧ Nx SR B0 bg bs bw t wid (m + 1) w own w' := by
  have HQ : Hid (PS SR) := Q
  clear Q
  obtain ⟨D, vl, vt, vd, L, T, PK, g⟩ := hx
  have HR : Hid (PR SR) := R
  have HG : Hid (GD SR w own B0 bg bs bw t wid m D vl vt vd L T PK) := g
  have hbg := lt_of_blk g.gb.game
  have HFR : Hid (∀ k, w.heap.size ≤ k → own k = .free) := hfree
  clear R g hfree
  go_enter Tryz.func10, Tryz.ntmps10
  go_upto_region 20 with fail
  obtain ⟨bx, hbx⟩ : ∃ bx, bx = w.heap.size := ⟨_, rfl⟩
  obtain ⟨w1, hw1⟩ : ∃ w1, w1 = w.alloc (.cells #[.int .i64 6, .int .i64 a, .int .i64 b, .int .i64 c, .string key, .int .i32 v, .int .i64 fr, .slice p pn pc] 33) := ⟨_, rfl⟩
  have HB1 : Hid (Below w.heap.size w w1) := by unfold Hid; rw [hw1]; exact below_alloc _ _
  have HBX : Hid (w1.heap[bx]? = some (.cells #[.int .i64 6, .int .i64 a, .int .i64 b, .int .i64 c, .string key, .int .i32 v, .int .i64 fr, .slice p pn pc] 33)) := by unfold Hid; rw [hw1, hbx]; exact heap_alloc_new _ _
  have HG1 : Hid (GD SR w1 own B0 bg bs bw t wid m D vl vt vd L T PK) := HG.out.below HR.out HB1.out
  have HBXE : Hid (bx = w.heap.size) := hbx
  have hbxw : bx < w1.heap.size := lt_of_blk HBX.out
  rw [← hw1, ← hbx]
  obtain ⟨own1, hown1⟩ : ∃ own1 : Ghost, own1 = fun k => if k = bx then .arg else own k := ⟨_, rfl⟩
  have HOW : Hid (∀ k, k ≠ bx → own1 k = own k) := fun k hk => by rw [hown1]; exact if_neg hk
  have HOX : Hid (own1 bx = .arg) := by unfold Hid; rw [hown1]; exact if_pos rfl
  have HGA : Hid (GD SR w1 own1 B0 bg bs bw t wid m D vl vt vd L T PK) := HG1.out.chg HR.out (Fr.refl _ _ _) fun k hk hf => by
    by_cases e : k = bx
    · exact absurd (HFR.out k (by have := HBXE.out; omega)) hf
    · exact HOW.out k e
  have HOM : Hid (own1 bg = .gm) := HGA.out.gb.gm
  have c0 : w1.cell? ⟨bg, 0, none⟩ = some (.pointer (some ⟨bs, 0, none⟩)) := by rw [cell_of_row _ _ _ _ _ _ HGA.out.gb.game]; rfl
  have c1 : w1.cell? ⟨bg, 1, none⟩ = some (.pointer (some ⟨bw, 0, none⟩)) := by rw [cell_of_row _ _ _ _ _ _ HGA.out.gb.game]; rfl
  have x1 : w1.cell? ⟨bx, 1, none⟩ = some (.int .i64 a) := by rw [cell_of_row _ _ _ _ _ _ HBX.out]; rfl
  have x2 : w1.cell? ⟨bx, 2, none⟩ = some (.int .i64 b) := by rw [cell_of_row _ _ _ _ _ _ HBX.out]; rfl
  have x3 : w1.cell? ⟨bx, 3, none⟩ = some (.int .i64 c) := by rw [cell_of_row _ _ _ _ _ _ HBX.out]; rfl
  have x4 : w1.cell? ⟨bx, 4, none⟩ = some (.string key) := by rw [cell_of_row _ _ _ _ _ _ HBX.out]; rfl
  have x5 : w1.cell? ⟨bx, 5, none⟩ = some (.int .i32 v) := by rw [cell_of_row _ _ _ _ _ _ HBX.out]; rfl
  clear hw1 hbx HBX hown1
  have hT0 : (fun w' : World => w'.cell? ⟨bg, 0, none⟩ = some (.pointer (some ⟨bs, 0, none⟩)) ∧ w'.cell? ⟨bx, 1, none⟩ = some (.int .i64 a)) w1.drew := ⟨c0, x1⟩
  refine wp_region_held (S := fun w' : World => w'.cell? ⟨bg, 0, none⟩ = some (.pointer (some ⟨bs, 0, none⟩)) ∧ w'.cell? ⟨bx, 1, none⟩ = some (.int .i64 a)) mixed ?_
  refine wpAnyH_take (i := 0) (v := (.pointer (some ⟨bg, 0, none⟩))) rfl (by kernel_rfl) (by kernel_rfl) (by kernel_rfl) (fun _ _ _ h => h) (Or.inl ⟨by rfl, fun wx hx => by go_simp⟩) hT0 ?_
  try dsimp only
  try simp only [Act.put, List.getElem_toArray, List.getElem_cons_succ, List.getElem_cons_zero, List.setIfInBounds_toArray, List.set_cons_zero, List.set_cons_succ]
  refine wpAnyH_take (i := 1) (v := (.pointer (some ⟨bg, 0, none⟩))) rfl (by kernel_rfl) (by kernel_rfl) (by kernel_rfl) (fun _ _ _ h => h) (Or.inl ⟨by rfl, fun wx hx => by go_simp⟩) hT0 ?_
  try dsimp only
  try simp only [Act.put, List.getElem_toArray, List.getElem_cons_succ, List.getElem_cons_zero, List.setIfInBounds_toArray, List.set_cons_zero, List.set_cons_succ]
  refine wpAnyH_take (i := 2) (v := (.pointer (some ⟨bg, 0, none⟩))) rfl (by kernel_rfl) (by kernel_rfl) (by kernel_rfl) (fun _ _ _ h => h) (Or.inl ⟨by rfl, fun wx hx => by go_simp⟩) hT0 ?_
  try dsimp only
  try simp only [Act.put, List.getElem_toArray, List.getElem_cons_succ, List.getElem_cons_zero, List.setIfInBounds_toArray, List.set_cons_zero, List.set_cons_succ]
  refine wpAnyH_take (i := 3) (v := (.pointer (some ⟨bs, 0, none⟩))) rfl (by kernel_rfl) (by kernel_rfl) (by kernel_rfl) (fun _ _ _ h => h) (Or.inl ⟨by rfl, fun wx hx => by have hx1 := hx.1; go_simp⟩) hT0 ?_
  try dsimp only
  try simp only [Act.put, List.getElem_toArray, List.getElem_cons_succ, List.getElem_cons_zero, List.setIfInBounds_toArray, List.set_cons_zero, List.set_cons_succ]
  refine wpAnyH_take (i := 4) (v := (.pointer (some ⟨bx, 1, none⟩))) rfl (by kernel_rfl) (by kernel_rfl) (by kernel_rfl) (fun _ _ _ h => h) (Or.inl ⟨by rfl, fun wx hx => by go_simp⟩) hT0 ?_
  try dsimp only
  try simp only [Act.put, List.getElem_toArray, List.getElem_cons_succ, List.getElem_cons_zero, List.setIfInBounds_toArray, List.set_cons_zero, List.set_cons_succ]
  refine wpAnyH_take (i := 5) (v := (.int .i64 a)) rfl (by kernel_rfl) (by kernel_rfl) (by kernel_rfl) (fun _ _ _ h => h) (Or.inl ⟨by rfl, fun wx hx => by have hx1 := hx.2; go_simp⟩) hT0 ?_
  try dsimp only
  try simp only [Act.put, List.getElem_toArray, List.getElem_cons_succ, List.getElem_cons_zero, List.setIfInBounds_toArray, List.set_cons_zero, List.set_cons_succ]
  refine wpAnyH_all (rs := [6]) (by kernel_rfl) (by simp) ?_
  intro jj hjj
  simp only [List.mem_cons, List.not_mem_nil, or_false] at hjj
  subst hjj
  refine wpOp_of_wp rfl rfl ?_
  go_simp
  refine (HQ.out.crash w1.drew own1 B0 bs t wid D (HR.out.below HGA.out.st below_drew) (HGA.out.di.mono (by omega)) HGA.out.gb.b0 a ha).mono ?_
  rintro e w2 ⟨rfl, own2, hst2, hsm2, hfr2⟩
  replace hfr2 : Fr own1 isSt w1 w2 := fr_drew hfr2
  replace hsm2 : Same w1 own1 own2 := hsm2
  have nb : own1 bg ≠ .free ∧ ¬ isSt (own1 bg) := by rw [HOM.out]; exact ⟨by simp, not_st (by simp)⟩
  have nx : own1 bx ≠ .free ∧ ¬ isSt (own1 bx) := by rw [HOX.out]; exact ⟨by simp, not_st (by simp)⟩
  have hT1 : (fun w' : World => w'.cell? ⟨bg, 0, none⟩ = some (.pointer (some ⟨bs, 0, none⟩)) ∧ w'.cell? ⟨bx, 1, none⟩ = some (.int .i64 a)) w2 := ⟨cell_fr hfr2 c0 nb.1 nb.2, cell_fr hfr2 x1 nx.1 nx.2⟩
  refine ⟨hT1, ?_⟩
  try dsimp only
  try simp only [Act.put, List.getElem_toArray, List.getElem_cons_succ, List.getElem_cons_zero, List.setIfInBounds_toArray, List.set_cons_zero, List.set_cons_succ]
  refine wpAnyH_take (i := 7) (v := (.int .i64 (ndE t a))) rfl (by kernel_rfl) (by kernel_rfl) (by kernel_rfl) (fun _ _ _ h => h) (Or.inl ⟨by rfl, fun wx hx => by go_simp⟩) hT1 ?_
  try dsimp only
  try simp only [Act.put, List.getElem_toArray, List.getElem_cons_succ, List.getElem_cons_zero, List.setIfInBounds_toArray, List.set_cons_zero, List.set_cons_succ]
  refine wpAnyH_done (by kernel_rfl) ?_ _
  have HST : Hid (SR w2 own2 B0 bs t wid (craD t D a) ∧ Same w1 own1 own2 ∧ Fr own1 isSt w1 w2) := ⟨hst2, hsm2, hfr2⟩
  have d1 : w2.cell? ⟨bg, 1, none⟩ = some (.pointer (some ⟨bw, 0, none⟩)) := cell_fr hfr2 c1 nb.1 nb.2
  have y1 : w2.cell? ⟨bx, 1, none⟩ = some (.int .i64 a) := cell_fr hfr2 x1 nx.1 nx.2
  have HEF : Hid (fitsI (ndE t a)) := ndE_fit t a
  obtain ⟨er, her⟩ : ∃ er, ndE t a = er := ⟨_, rfl⟩
  have HER : Hid (ndE t a = er) := her
  rw [her] at HEF ⊢
  clear hT0 hT1 hst2 hsm2 hfr2 nb nx her c0 c1 x1 x2 x3 x4 x5
  go_upto_region 22 with (go_at_call 19; refine (num_any _ _ HEF.out).mono ?_; rintro e wA ⟨rfl, hwA⟩; have hwA := hwA.symm; subst hwA)
  have hT0 : (fun w' : World => w'.cell? ⟨bg, 1, none⟩ = some (.pointer (some ⟨bw, 0, none⟩)) ∧ w'.cell? ⟨bx, 1, none⟩ = some (.int .i64 a)) w2.drew := ⟨d1, y1⟩
  refine wp_region_held (S := fun w' : World => w'.cell? ⟨bg, 1, none⟩ = some (.pointer (some ⟨bw, 0, none⟩)) ∧ w'.cell? ⟨bx, 1, none⟩ = some (.int .i64 a)) mixed ?_
  refine wpAnyH_take (i := 0) (v := (.pointer (some ⟨bg, 0, none⟩))) rfl (by kernel_rfl) (by kernel_rfl) (by kernel_rfl) (fun _ _ _ h => h) (Or.inl ⟨by rfl, fun wx hx => by go_simp⟩) hT0 ?_
  try dsimp only
  try simp only [Act.put, List.getElem_toArray, List.getElem_cons_succ, List.getElem_cons_zero, List.setIfInBounds_toArray, List.set_cons_zero, List.set_cons_succ]
  refine wpAnyH_take (i := 1) (v := (.pointer (some ⟨bg, 0, none⟩))) rfl (by kernel_rfl) (by kernel_rfl) (by kernel_rfl) (fun _ _ _ h => h) (Or.inl ⟨by rfl, fun wx hx => by go_simp⟩) hT0 ?_
  try dsimp only
  try simp only [Act.put, List.getElem_toArray, List.getElem_cons_succ, List.getElem_cons_zero, List.setIfInBounds_toArray, List.set_cons_zero, List.set_cons_succ]
  refine wpAnyH_take (i := 2) (v := (.pointer (some ⟨bg, 1, none⟩))) rfl (by kernel_rfl) (by kernel_rfl) (by kernel_rfl) (fun _ _ _ h => h) (Or.inl ⟨by rfl, fun wx hx => by go_simp⟩) hT0 ?_
  try dsimp only
  try simp only [Act.put, List.getElem_toArray, List.getElem_cons_succ, List.getElem_cons_zero, List.setIfInBounds_toArray, List.set_cons_zero, List.set_cons_succ]
  refine wpAnyH_take (i := 3) (v := (.pointer (some ⟨bw, 0, none⟩))) rfl (by kernel_rfl) (by kernel_rfl) (by kernel_rfl) (fun _ _ _ h => h) (Or.inl ⟨by rfl, fun wx hx => by have hx1 := hx.1; go_simp⟩) hT0 ?_
  try dsimp only
  try simp only [Act.put, List.getElem_toArray, List.getElem_cons_succ, List.getElem_cons_zero, List.setIfInBounds_toArray, List.set_cons_zero, List.set_cons_succ]
  refine wpAnyH_take (i := 4) (v := (.pointer (some ⟨bx, 1, none⟩))) rfl (by kernel_rfl) (by kernel_rfl) (by kernel_rfl) (fun _ _ _ h => h) (Or.inl ⟨by rfl, fun wx hx => by go_simp⟩) hT0 ?_
  try dsimp only
  try simp only [Act.put, List.getElem_toArray, List.getElem_cons_succ, List.getElem_cons_zero, List.setIfInBounds_toArray, List.set_cons_zero, List.set_cons_succ]
  refine wpAnyH_take (i := 5) (v := (.int .i64 a)) rfl (by kernel_rfl) (by kernel_rfl) (by kernel_rfl) (fun _ _ _ h => h) (Or.inl ⟨by rfl, fun wx hx => by have hx1 := hx.2; go_simp⟩) hT0 ?_
  try dsimp only
  try simp only [Act.put, List.getElem_toArray, List.getElem_cons_succ, List.getElem_cons_zero, List.setIfInBounds_toArray, List.set_cons_zero, List.set_cons_succ]
  refine wpAnyH_all (rs := [6]) (by kernel_rfl) (by simp) ?_
  intro jj hjj
  simp only [List.mem_cons, List.not_mem_nil, or_false] at hjj
  subst hjj
  refine wpOp_of_wp rfl rfl ?_
  go_simp
  obtain ⟨xt, xn, C, W0⟩ := HGA.out.wd
  have W : WRep w2 own2 B0 bw t wid D xt xn C := W0.chg HST.out.2.2 HST.out.2.1 fun i => not_st (by simp)
  have hb0 : B0 ≤ w2.heap.size := Nat.le_trans HGA.out.gb.b0 HST.out.2.2.size
  refine (rCrash_any w2.drew own2 B0 bw t wid D xt xn C (W.below below_drew) a hb0 (fun k d hk => by have := HGA.out.di k d hk; omega)).mono ?_
  rintro e w3 ⟨rfl, own3, C3, hw3, hsm3, hfr3⟩
  replace hfr3 : Fr own2 isWd w2 w3 := fr_drew hfr3
  replace hsm3 : Same w2 own2 own3 := hsm3
  have nb : own2 bg ≠ .free ∧ ¬ isWd (own2 bg) := by rw [HST.out.2.1 bg (lt_of_blk HGA.out.gb.game) (by rw [HOM.out]; simp), HOM.out]; exact ⟨by simp, not_wd (by simp)⟩
  have nx : own2 bx ≠ .free ∧ ¬ isWd (own2 bx) := by rw [HST.out.2.1 bx hbxw (by rw [HOX.out]; simp), HOX.out]; exact ⟨by simp, not_wd (by simp)⟩
  have hT1 : (fun w' : World => w'.cell? ⟨bg, 1, none⟩ = some (.pointer (some ⟨bw, 0, none⟩)) ∧ w'.cell? ⟨bx, 1, none⟩ = some (.int .i64 a)) w3 := ⟨cell_fr hfr3 d1 nb.1 nb.2, cell_fr hfr3 y1 nx.1 nx.2⟩
  rw [HER.out]
  refine ⟨hT1, ?_⟩
  try dsimp only
  try simp only [Act.put, List.getElem_toArray, List.getElem_cons_succ, List.getElem_cons_zero, List.setIfInBounds_toArray, List.set_cons_zero, List.set_cons_succ]
  refine wpAnyH_take (i := 7) (v := (.int .i64 er)) rfl (by kernel_rfl) (by kernel_rfl) (by kernel_rfl) (fun _ _ _ h => h) (Or.inl ⟨by rfl, fun wx hx => by go_simp⟩) hT1 ?_
  try dsimp only
  try simp only [Act.put, List.getElem_toArray, List.getElem_cons_succ, List.getElem_cons_zero, List.setIfInBounds_toArray, List.set_cons_zero, List.set_cons_succ]
  refine wpAnyH_done (by kernel_rfl) ?_ _
  have Z : Hid (Nx SR B0 bg bs bw t wid (m + 1) w own w3) := Nx.mk HB1.out (fun k hk => HOW.out k (by have := HBXE.out; omega)) ⟨_, vl, vt, vd, L, T, PK, HGA.out.both HR.out HST.out.1 HST.out.2.1 HST.out.2.2 hw3 hsm3 hfr3 ((craD_di HGA.out.di a).mono (by omega)) (by omega)⟩ (HST.out.2.1.trans HST.out.2.2.size hsm3) (HST.out.2.2.stwd HST.out.2.1 hfr3)
  clear hT0 hT1 hw3 hsm3 hfr3 nb nx W W0 d1 y1
  go_wp2
  go_ret
  exact ⟨rfl, Z.out⟩
end Go.Proofs.YtpglbakcjihohaaGreat
