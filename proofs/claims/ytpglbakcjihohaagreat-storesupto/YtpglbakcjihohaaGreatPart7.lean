/-
  Own texts, laid together: 'sends': what is sent is what the document sends; the packet is laid by. 'brings': a packet is delivered as the document says; what was handed in stays as it was. 'end': at the end all is looked at.
-/
import Derived.Test.YtpglbakcjihohaaGreatRows
import Derived.Test.YtpglbakcjihohaaGreatPart6
set_option linter.unusedSimpArgs false
set_option linter.unusedVariables false
set_option linter.deprecated false
/-! 'sends': what is sent is what the document sends; the packet is laid by. -/
namespace Go.Proofs.YtpglbakcjihohaaGreat
open Go.RowKit
set_option maxRecDepth 100000

theorem sndE_fit (t : List Int) (n low high : Int) : fitsI (sndE t n low high) := by
  unfold fitsI sndE
  repeat' split
  all_goals omega
theorem sndF_fit (t : List Int) (n low high : Int) (h8 : t.length ≤ 8) : fitsI (sndF t n low high) := by
  unfold fitsI sndF
  split
  · rename_i h
    unfold sndE at h
    split at h
    · rename_i h1; simp only [isNd, decide_eq_true_eq] at h1; omega
    · omega
  · omega
theorem sndL_ok {w : World} {own : Ghost} {B0 bw : Nat} {t : List Int} {wid : Int} {D : List Nd} {vt vn : Sl} {C : List NdC} (h : WRep w own B0 bw t wid D vt vn C) {m : Nat} (hd : DI D m) (hm : m ≤ 100000000) (n low high : Int) : AllOkI (sndL t D n low high) ∧ (sndL t D n low high).length ≤ 160 := by
  have h8 := h.T.le
  unfold sndL
  split
  · cases hx : D[n.toNat]? with
    | none => exact ⟨fun i x hx => by simp at hx, by simp⟩
    | some d =>
      have ok := h.ok _ d hx
      have hl := (List.getElem?_eq_some_iff.1 hx).1
      have hld := h.ld
      have h1 : AllOkI (std t d n.toNat) := std_ok ok (by omega) (hd.kev hm _ d hx)
      have h2 := std_len (t := t) (n := n.toNat) ok
      exact ⟨allOkI_of fun x hx => h1.mem (List.mem_filter.1 hx).1, Nat.le_trans (List.length_filter_le _ _) h2⟩
  · exact ⟨fun i x hx => by simp at hx, by simp⟩
/-- A packet has been laid by. -/
theorem GD.laid {SR : SRT} (R : PR SR) {w w1 w2 : World} {own : Ghost} {B0 bg bs bw : Nat} {t : List Int} {wid : Int} {m m' : Nat} {D : List Nd} {vl vt vd : Sl} {L T : List Sl} {PK : List Pk} (g : GD SR w own B0 bg bs bw t wid m D vl vt vd L T PK) (hm : m ≤ m') (hl : PK.length + 1 ≤ m') (hb1 : Below w.heap.size w w1) (x : Pk) (hx : PkIn w own x) (s : Sl) (o1 : Own clPk w2 B0 31 s.val (PK ++ [x])) (g1 : w1.grownBy w2 vd.val.ownBlock) (t1 : s.val.ownBlock = vd.val.ownBlock ∨ s.val.ownBlock = some w1.heap.size) :
    ∃ own', GD SR (w2.setCell ⟨bg, 2, none⟩ s.val) own' B0 bg bs bw t wid m' D vl vt s L T (PK ++ [x]) ∧ Same w own own' ∧ Fr own (fun t => t = .gm ∨ t = .ld) w (w2.setCell ⟨bg, 2, none⟩ s.val) := by
  have hs1 := hb1.size
  have hs2 := g1.size
  have hbg := lt_of_blk g.gb.game
  have nv : vd.val.ownBlock ≠ some bg := fun e => by have := g.gb.td bg e; rw [g.gb.gm] at this; cases this
  have ns : s.val.ownBlock ≠ some bg := fun e => by
    rcases t1 with a | a
    · exact nv (a ▸ e)
    · rw [a] at e; have := Option.some.inj e; omega
  have gbg : w2.heap[bg]? = w.heap[bg]? := by rw [g1.block bg (by omega) (fun e => nv e.symm), hb1.block bg hbg]
  let own' : Ghost := fun k => if s.val.ownBlock = some k then .ld else own k
  have same : Same w own own' := fun k hk hf => by
    by_cases e : s.val.ownBlock = some k
    · simp only [own', if_pos e]
      rcases t1 with a | a
      · exact (g.gb.td k (a ▸ e)).symm
      · rw [a] at e; have := Option.some.inj e; omega
    · simp only [own', if_neg e]
  have f : Fr own (fun t => t = .gm ∨ t = .ld) w (w2.setCell ⟨bg, 2, none⟩ s.val) := by
    refine ⟨g1.os.trans hb1.os, g1.tape.trans hb1.tape, g1.output.trans hb1.output, by simp; omega, fun k hk hf hn => ?_⟩
    have n1 : k ≠ bg := fun e => hn (by rw [e, g.gb.gm]; exact .inl rfl)
    rw [heap_setCell_other _ _ _ _ (by show k ≠ bg; exact n1), g1.block k (by omega) (fun e => hn (.inr (g.gb.td k e.symm))), hb1.block k hk]
  have gg : (w2.setCell ⟨bg, 2, none⟩ s.val).heap[bg]? = some (.cells #[.pointer (some ⟨bs, 0, none⟩), .pointer (some ⟨bw, 0, none⟩), s.val, vl.val, vt.val] 42) := by
    rw [heap_setCell_same _ _ _ _ _ _ (gbg.trans g.gb.game)]; rfl
  refine ⟨own', ⟨⟨gg, ?_, Nat.le_trans g.gb.b0 f.size, g.gb.bk.chg f same (by simp) (by simp) (by simp), ?_, fun k hk => if_pos hk, fun y hy => ?_⟩, R.chg g.st f same (fun i => by simp), ?_, g.di.mono hm, Nat.le_trans g.ll hm, by simpa using hl⟩, same, f⟩
  · rw [same bg hbg (by rw [g.gb.gm]; simp)]; exact g.gb.gm
  · exact o1.chg fun k hk => heap_setCell_other _ _ _ _ (by show k ≠ bg; intro e; exact ns (by rw [hk, e]))
  · rcases List.mem_append.1 hy with h | h
    · exact (g.gb.pk y h).chg f same (by simp)
    · rw [List.mem_singleton.1 h]; exact hx.chg f same (by simp)
  · obtain ⟨xt, xn, C, hw⟩ := g.wd; exact ⟨xt, xn, C, hw.chg f same (fun i => by simp)⟩
section
variable {ops : Array Oper} {i : Nat} {o : Oper} {a : Act} {w : World} {Q : Exit → Act → World → Prop} {K : Act → World → Prop}
theorem wpOp_build1_pk (hi : ops[i]? = some o) (hg : o.guard = none) (x : Operand) (ho : o.op = .buildSlice 37 1 #[(0, x)]) (e : Pk) (hx : a.eval x = .agg #[.int .i64 e.fr, .slice e.s.p e.s.n e.s.c])
    (h : RowsAt clPk (w.alloc (.cells (flat clPk [e]).toArray 31)) (some ⟨w.heap.size, 0, none⟩) [e] → K (a.put o.dst (.slice (some ⟨w.heap.size, 0, none⟩) 1 1)) (w.alloc (.cells (flat clPk [e]).toArray 31))) : wpOp Tryz.prog ops Q i K a w :=
  wpOp_build1_cl slPk hi hg x ho e _ hx rfl (by rw [Pk.clsize]; decide) h
theorem wpOp_append_pk (hi : ops[i]? = some o) (hg : o.guard = none) (s x : Operand) (ho : o.op = .call { callee := .builtin .append, args := #[s, x], argTypes := #[37, 37] }) (base : Nat) (v : Value) (l : List Pk) (hs : a.eval s = v) (hown : Own clPk w base 31 v l)
    (p : Option Addr) (m c : Nat) (ms : List Pk) (hx : a.eval x = .slice p m c) (hm : ms.length = m) (hr : RowsAt clPk w p ms) (hpos : 0 < m) (h63 : l.length + m ≤ 1000000000) (hbase : base ≤ w.heap.size)
    (h : ∀ v' w', Own clPk w' base 31 v' (l ++ ms) → w.grownBy w' v.ownBlock → (v'.ownBlock = v.ownBlock ∨ v'.ownBlock = some w.heap.size) → (∃ g cap, v' = .slice (some ⟨g, 0, none⟩) (l ++ ms).length cap) → K (a.put o.dst v') w') : wpOp Tryz.prog ops Q i K a w :=
  wpOp_append_cl slPk hi hg s x ho base v l hs hown p m c ms hx hm hr hpos (by simp only [maxLen]; omega) (by omega) hbase h
end
theorem Own.block_sl {w : World} {B : Nat} {s : Sl} {l : List It} (h : Own clIt w B 114 (.slice s.p s.n s.c) l) (b off : Nat) (e : s.p = some ⟨b, off, none⟩) : (Value.slice s.p s.n s.c).ownBlock = some b := by rw [e]; rfl
set_option maxHeartbeats 8000000 in
theorem sends_any (SR : SRT) (R : PR SR) (Q : PD SR) (w : World) (own : Ghost) (B0 bg bs bw : Nat) (t : List Int) (wid : Int) (m : Nat) (hx : GX SR B0 bg bs bw t wid m w own) (hm : m < 100000000) (hfree : ∀ k, w.heap.size ≤ k → own k = .free) (kind a b c v fr : Int) (key : ByteArray) (p : Option Addr) (pn pc : Nat) (ha : fitsI a) (hb : fitsI b) (hc : fitsI c) :
    Calls Tryz.prog 30 #[.pointer (some ⟨bg, 0, none⟩), .agg #[.int .i64 kind, .int .i64 a, .int .i64 b, .int .i64 c, .string key, .int .i32 v, .int .i64 fr, .slice p pn pc]] w fun e w' => e = .returned (.bool true) ∧ Nx SR B0 bg bs bw t wid (m + 1) w own w' := by
  obtain ⟨D, vl, vt, vd, L, T, PK, g⟩ := hx
  have HR : Hid (PR SR) := R
  have HQ : Hid (PD SR) := Q
  have HG : Hid (GD SR w own B0 bg bs bw t wid m D vl vt vd L T PK) := g
  have hbg := lt_of_blk g.gb.game
  have HFR : Hid (∀ k, w.heap.size ≤ k → own k = .free) := hfree
  clear R Q g hfree
  go_enter Tryz.func30, Tryz.ntmps30
  go_upto_region 1 with fail
  obtain ⟨bx, hbx⟩ : ∃ bx, bx = w.heap.size := ⟨_, rfl⟩
  obtain ⟨w1, hw1⟩ : ∃ w1, w1 = w.alloc (.cells #[.int .i64 kind, .int .i64 a, .int .i64 b, .int .i64 c, .string key, .int .i32 v, .int .i64 fr, .slice p pn pc] 33) := ⟨_, rfl⟩
  have HB1 : Hid (Below w.heap.size w w1) := by unfold Hid; rw [hw1]; exact below_alloc _ _
  have HBX : Hid (w1.heap[bx]? = some (.cells #[.int .i64 kind, .int .i64 a, .int .i64 b, .int .i64 c, .string key, .int .i32 v, .int .i64 fr, .slice p pn pc] 33)) := by unfold Hid; rw [hw1, hbx]; exact heap_alloc_new _ _
  have HG1 : Hid (GD SR w1 own B0 bg bs bw t wid m D vl vt vd L T PK) := HG.out.below HR.out HB1.out
  have c0 : w1.cell? ⟨bg, 0, none⟩ = some (.pointer (some ⟨bs, 0, none⟩)) := by rw [cell_of_row _ _ _ _ _ _ HG1.out.gb.game]; rfl
  have c1 : w1.cell? ⟨bg, 1, none⟩ = some (.pointer (some ⟨bw, 0, none⟩)) := by rw [cell_of_row _ _ _ _ _ _ HG1.out.gb.game]; rfl
  have x1 : w1.cell? ⟨bx, 1, none⟩ = some (.int .i64 a) := by rw [cell_of_row _ _ _ _ _ _ HBX.out]; rfl
  have x2 : w1.cell? ⟨bx, 2, none⟩ = some (.int .i64 b) := by rw [cell_of_row _ _ _ _ _ _ HBX.out]; rfl
  have x3 : w1.cell? ⟨bx, 3, none⟩ = some (.int .i64 c) := by rw [cell_of_row _ _ _ _ _ _ HBX.out]; rfl
  have HBXE : Hid (bx = w.heap.size) := hbx
  have hbxw : bx < w1.heap.size := lt_of_blk HBX.out
  rw [← hw1, ← hbx]
  clear hw1 hbx HBX
  go_cut [5, 6] (fun v5 v6 wx => ∃ (ga : Nat) (s : Sl), v5 = .pointer (some ⟨ga, 0, none⟩) ∧ v6 = .int .i64 (sndE t a b c) ∧ wx.heap[ga]? = some (.cells #[.int .i64 (sndF t a b c), .slice s.p s.n s.c] 31) ∧ w1.heap.size ≤ ga ∧ Below w1.heap.size w1 wx ∧ Own clIt wx w1.heap.size 114 (.slice s.p s.n s.c) (sndL t D a b c) ∧ (Value.slice s.p s.n s.c).ownBlock ≠ some ga)
  case first =>
    have hT0 : (fun w' : World => w'.cell? ⟨bg, 0, none⟩ = some (.pointer (some ⟨bs, 0, none⟩)) ∧ w'.cell? ⟨bx, 1, none⟩ = some (.int .i64 a) ∧ w'.cell? ⟨bx, 2, none⟩ = some (.int .i64 b) ∧ w'.cell? ⟨bx, 3, none⟩ = some (.int .i64 c)) w1.drew := ⟨c0, x1, x2, x3⟩
    refine wp_region_held (S := fun w' : World => w'.cell? ⟨bg, 0, none⟩ = some (.pointer (some ⟨bs, 0, none⟩)) ∧ w'.cell? ⟨bx, 1, none⟩ = some (.int .i64 a) ∧ w'.cell? ⟨bx, 2, none⟩ = some (.int .i64 b) ∧ w'.cell? ⟨bx, 3, none⟩ = some (.int .i64 c)) mixed ?_
    refine wpAnyH_take (i := 0) (v := (.pointer (some ⟨bg, 0, none⟩))) rfl (by kernel_rfl) (by kernel_rfl) (by kernel_rfl) (fun _ _ _ h => h) (Or.inl ⟨by rfl, fun wx hx => by go_simp⟩) hT0 ?_
    try dsimp only
    try simp only [Act.put, List.getElem_toArray, List.getElem_cons_succ, List.getElem_cons_zero, List.setIfInBounds_toArray, List.set_cons_zero, List.set_cons_succ]
    refine wpAnyH_take (i := 1) (v := (.pointer (some ⟨bg, 0, none⟩))) rfl (by kernel_rfl) (by kernel_rfl) (by kernel_rfl) (fun _ _ _ h => h) (Or.inl ⟨by rfl, fun wx hx => by go_simp⟩) hT0 ?_
    try dsimp only
    try simp only [Act.put, List.getElem_toArray, List.getElem_cons_succ, List.getElem_cons_zero, List.setIfInBounds_toArray, List.set_cons_zero, List.set_cons_succ]
    refine wpAnyH_take (i := 2) (v := (.pointer (some ⟨bg, 0, none⟩))) rfl (by kernel_rfl) (by kernel_rfl) (by kernel_rfl) (fun _ _ _ h => h) (Or.inl ⟨by rfl, fun wx hx => by go_simp⟩) hT0 ?_
    try dsimp only
    try simp only [Act.put, List.getElem_toArray, List.getElem_cons_succ, List.getElem_cons_zero, List.setIfInBounds_toArray, List.set_cons_zero, List.set_cons_succ]
    refine wpAnyH_take (i := 3) (v := (.pointer (some ⟨bs, 0, none⟩))) rfl (by kernel_rfl) (by kernel_rfl) (by kernel_rfl) (fun _ _ _ h => h) (Or.inl ⟨by rfl, fun wx hx => by have hx1 := hx.1; go_simp⟩) hT0 ?_
    try dsimp only
    try simp only [Act.put, List.getElem_toArray, List.getElem_cons_succ, List.getElem_cons_zero, List.setIfInBounds_toArray, List.set_cons_zero, List.set_cons_succ]
    refine wpAnyH_take (i := 4) (v := (.pointer (some ⟨bx, 1, none⟩))) rfl (by kernel_rfl) (by kernel_rfl) (by kernel_rfl) (fun _ _ _ h => h) (Or.inl ⟨by rfl, fun wx hx => by go_simp⟩) hT0 ?_
    try dsimp only
    try simp only [Act.put, List.getElem_toArray, List.getElem_cons_succ, List.getElem_cons_zero, List.setIfInBounds_toArray, List.set_cons_zero, List.set_cons_succ]
    refine wpAnyH_take (i := 5) (v := (.int .i64 a)) rfl (by kernel_rfl) (by kernel_rfl) (by kernel_rfl) (fun _ _ _ h => h) (Or.inl ⟨by rfl, fun wx hx => by have hx1 := hx.2.1; go_simp⟩) hT0 ?_
    try dsimp only
    try simp only [Act.put, List.getElem_toArray, List.getElem_cons_succ, List.getElem_cons_zero, List.setIfInBounds_toArray, List.set_cons_zero, List.set_cons_succ]
    refine wpAnyH_take (i := 6) (v := (.pointer (some ⟨bx, 2, none⟩))) rfl (by kernel_rfl) (by kernel_rfl) (by kernel_rfl) (fun _ _ _ h => h) (Or.inl ⟨by rfl, fun wx hx => by go_simp⟩) hT0 ?_
    try dsimp only
    try simp only [Act.put, List.getElem_toArray, List.getElem_cons_succ, List.getElem_cons_zero, List.setIfInBounds_toArray, List.set_cons_zero, List.set_cons_succ]
    refine wpAnyH_take (i := 7) (v := (.int .i64 b)) rfl (by kernel_rfl) (by kernel_rfl) (by kernel_rfl) (fun _ _ _ h => h) (Or.inl ⟨by rfl, fun wx hx => by have hx1 := hx.2.2.1; go_simp⟩) hT0 ?_
    try dsimp only
    try simp only [Act.put, List.getElem_toArray, List.getElem_cons_succ, List.getElem_cons_zero, List.setIfInBounds_toArray, List.set_cons_zero, List.set_cons_succ]
    refine wpAnyH_take (i := 8) (v := (.pointer (some ⟨bx, 3, none⟩))) rfl (by kernel_rfl) (by kernel_rfl) (by kernel_rfl) (fun _ _ _ h => h) (Or.inl ⟨by rfl, fun wx hx => by go_simp⟩) hT0 ?_
    try dsimp only
    try simp only [Act.put, List.getElem_toArray, List.getElem_cons_succ, List.getElem_cons_zero, List.setIfInBounds_toArray, List.set_cons_zero, List.set_cons_succ]
    refine wpAnyH_take (i := 9) (v := (.int .i64 c)) rfl (by kernel_rfl) (by kernel_rfl) (by kernel_rfl) (fun _ _ _ h => h) (Or.inl ⟨by rfl, fun wx hx => by have hx1 := hx.2.2.2; go_simp⟩) hT0 ?_
    try dsimp only
    try simp only [Act.put, List.getElem_toArray, List.getElem_cons_succ, List.getElem_cons_zero, List.setIfInBounds_toArray, List.set_cons_zero, List.set_cons_succ]
    refine wpAnyH_all (rs := [10, 14]) (by kernel_rfl) (by simp) ?_
    intro jj hjj
    simp only [List.mem_cons, List.not_mem_nil, or_false] at hjj
    rcases hjj with rfl | rfl
    · skip
      refine wpOp_of_wp rfl rfl ?_
      go_simp
      refine (HQ.out.send w1.drew own B0 bs t wid D (HR.out.below HG1.out.st below_drew) (HG1.out.di.mono (by omega)) a b c ha hb hc).mono ?_
      rintro e w5 ⟨v5, rfl, ho5, hb5⟩
      replace hb5 : Below w1.heap.size w1 w5 := below_drawn' hb5
      replace ho5 : Own clIt w5 w1.heap.size 114 v5 (sndL t D a b c) := ho5
      obtain ⟨s5, rfl⟩ : ∃ s5 : Sl, v5 = .slice s5.p s5.n s5.c := by obtain ⟨p, c, e, _⟩ := ho5.form; exact ⟨⟨p, _, c⟩, e⟩
      have hT1 : (fun w' : World => w'.cell? ⟨bg, 0, none⟩ = some (.pointer (some ⟨bs, 0, none⟩)) ∧ w'.cell? ⟨bx, 1, none⟩ = some (.int .i64 a) ∧ w'.cell? ⟨bx, 2, none⟩ = some (.int .i64 b) ∧ w'.cell? ⟨bx, 3, none⟩ = some (.int .i64 c)) w5 := ⟨cell_keep (w := w1) hb5 hT0.1, cell_keep (w := w1) hb5 hT0.2.1, cell_keep (w := w1) hb5 hT0.2.2.1, cell_keep (w := w1) hb5 hT0.2.2.2⟩
      refine ⟨hT1, ?_⟩
      try dsimp only
      try simp only [Act.put, List.getElem_toArray, List.getElem_cons_succ, List.getElem_cons_zero, List.setIfInBounds_toArray, List.set_cons_zero, List.set_cons_succ]
      refine wpAnyH_take (i := 11) (v := (.tuple #[.agg #[.int .i64 (sndF t a b c), .slice s5.p s5.n s5.c], .int .i64 (sndE t a b c)])) rfl (by kernel_rfl) (by kernel_rfl) (by kernel_rfl) (fun _ _ _ h => h) (Or.inl ⟨by rfl, fun wx hx => by go_simp⟩) hT1 ?_
      try dsimp only
      try simp only [Act.put, List.getElem_toArray, List.getElem_cons_succ, List.getElem_cons_zero, List.setIfInBounds_toArray, List.set_cons_zero, List.set_cons_succ]
      refine wpAnyH_take (i := 12) (v := (.agg #[.int .i64 (sndF t a b c), .slice s5.p s5.n s5.c])) rfl (by kernel_rfl) (by kernel_rfl) (by kernel_rfl) (fun _ _ _ h => h) (Or.inl ⟨by rfl, fun wx hx => by go_simp⟩) hT1 ?_
      try dsimp only
      try simp only [Act.put, List.getElem_toArray, List.getElem_cons_succ, List.getElem_cons_zero, List.setIfInBounds_toArray, List.set_cons_zero, List.set_cons_succ]
      refine wpAnyH_take (i := 13) (v := (.int .i64 (sndE t a b c))) rfl (by kernel_rfl) (by kernel_rfl) (by kernel_rfl) (fun _ _ _ h => h) (Or.inl ⟨by rfl, fun wx hx => by go_simp⟩) hT1 ?_
      try dsimp only
      try simp only [Act.put, List.getElem_toArray, List.getElem_cons_succ, List.getElem_cons_zero, List.setIfInBounds_toArray, List.set_cons_zero, List.set_cons_succ]
      refine wpAnyH_all (rs := [14]) (by kernel_rfl) (by simp) ?_
      intro jj hjj
      simp only [List.mem_cons, List.not_mem_nil, or_false] at hjj
      subst hjj
      refine wpOp_alloc_z rfl rfl _ rfl _ zero_pk ?_
      have hbal : Below w1.heap.size w1 (w5.alloc (.cells #[.int .i64 0, .slice none 0 0] 31)) := bnext hb5 (below_alloc _ _)
      have hT2 : (fun w' : World => w'.cell? ⟨bg, 0, none⟩ = some (.pointer (some ⟨bs, 0, none⟩)) ∧ w'.cell? ⟨bx, 1, none⟩ = some (.int .i64 a) ∧ w'.cell? ⟨bx, 2, none⟩ = some (.int .i64 b) ∧ w'.cell? ⟨bx, 3, none⟩ = some (.int .i64 c)) (w5.alloc (.cells #[.int .i64 0, .slice none 0 0] 31)) := ⟨cell_keep (w := w1) hbal hT0.1, cell_keep (w := w1) hbal hT0.2.1, cell_keep (w := w1) hbal hT0.2.2.1, cell_keep (w := w1) hbal hT0.2.2.2⟩
      refine ⟨hT2, ?_⟩
      try dsimp only
      try simp only [Act.put, List.getElem_toArray, List.getElem_cons_succ, List.getElem_cons_zero, List.setIfInBounds_toArray, List.set_cons_zero, List.set_cons_succ]
      refine wpAnyH_all (rs := [15]) (by kernel_rfl) (by simp) ?_
      intro jj hjj
      simp only [List.mem_cons, List.not_mem_nil, or_false] at hjj
      subst hjj
      have G5 := heap_alloc_new w5 (.cells #[.int .i64 0, .slice none 0 0] 31)
      refine wpOp_store_row rfl rfl _ _ _ rfl #[.int .i64 (sndF t a b c), .slice s5.p s5.n s5.c] rfl rfl G5 info_pk rfl (by simp [Value.oneCell']) ?_
      have hsb := hb5.size
      have hbst : Below w1.heap.size w1 ((w5.alloc (.cells #[.int .i64 0, .slice none 0 0] 31)).setRow w5.heap.size #[.int .i64 (sndF t a b c), .slice s5.p s5.n s5.c]) := below_setRow _ hbal hsb
      have hT3 : (fun w' : World => w'.cell? ⟨bg, 0, none⟩ = some (.pointer (some ⟨bs, 0, none⟩)) ∧ w'.cell? ⟨bx, 1, none⟩ = some (.int .i64 a) ∧ w'.cell? ⟨bx, 2, none⟩ = some (.int .i64 b) ∧ w'.cell? ⟨bx, 3, none⟩ = some (.int .i64 c)) ((w5.alloc (.cells #[.int .i64 0, .slice none 0 0] 31)).setRow w5.heap.size #[.int .i64 (sndF t a b c), .slice s5.p s5.n s5.c]) := ⟨cell_keep (w := w1) hbst hT0.1, cell_keep (w := w1) hbst hT0.2.1, cell_keep (w := w1) hbst hT0.2.2.1, cell_keep (w := w1) hbst hT0.2.2.2⟩
      refine ⟨hT3, ?_⟩
      try dsimp only
      try simp only [Act.put, List.getElem_toArray, List.getElem_cons_succ, List.getElem_cons_zero, List.setIfInBounds_toArray, List.set_cons_zero, List.set_cons_succ]
      refine wpAnyH_take (i := 16) (v := (.int .i64 (sndE t a b c))) rfl (by kernel_rfl) (by kernel_rfl) (by kernel_rfl) (fun _ _ _ h => h) (Or.inl ⟨by rfl, fun wx hx => by go_simp⟩) hT3 ?_
      try dsimp only
      try simp only [Act.put, List.getElem_toArray, List.getElem_cons_succ, List.getElem_cons_zero, List.setIfInBounds_toArray, List.set_cons_zero, List.set_cons_succ]
      refine wpAnyH_done (by kernel_rfl) ?_ _
      have GZ := setRow_blk (A := #[.int .i64 (sndF t a b c), .slice s5.p s5.n s5.c]) G5
      have NE : (Value.slice s5.p s5.n s5.c).ownBlock ≠ some w5.heap.size := fun e => by have := (ho5.lt _ e).2; omega
      have OZ : Own clIt ((w5.alloc (.cells #[.int .i64 0, .slice none 0 0] 31)).setRow w5.heap.size #[.int .i64 (sndF t a b c), .slice s5.p s5.n s5.c]) w1.heap.size 114 (.slice s5.p s5.n s5.c) (sndL t D a b c) := (ho5.below (below_alloc _ _)).chg fun k hk => setRow_other _ _ _ _ (fun e => NE (by rw [hk, e]))
      clear hT0 hT1 hT2 hT3 hbal G5 hb5 ho5
      go_wp2_with fail
      go_meet
      exact ⟨w5.heap.size, s5, rfl, rfl, GZ, hsb, hbst, OZ, NE⟩
    · skip
      refine wpOp_alloc_z rfl rfl _ rfl _ zero_pk ?_
      have hbal : Below w1.heap.size w1 (w1.drew.alloc (.cells #[.int .i64 0, .slice none 0 0] 31)) := below_drawn' (below_alloc w1.drew _)
      have hT1 : (fun w' : World => w'.cell? ⟨bg, 0, none⟩ = some (.pointer (some ⟨bs, 0, none⟩)) ∧ w'.cell? ⟨bx, 1, none⟩ = some (.int .i64 a) ∧ w'.cell? ⟨bx, 2, none⟩ = some (.int .i64 b) ∧ w'.cell? ⟨bx, 3, none⟩ = some (.int .i64 c)) (w1.drew.alloc (.cells #[.int .i64 0, .slice none 0 0] 31)) := ⟨cell_keep (w := w1) hbal hT0.1, cell_keep (w := w1) hbal hT0.2.1, cell_keep (w := w1) hbal hT0.2.2.1, cell_keep (w := w1) hbal hT0.2.2.2⟩
      refine ⟨hT1, ?_⟩
      try dsimp only
      try simp only [Act.put, List.getElem_toArray, List.getElem_cons_succ, List.getElem_cons_zero, List.setIfInBounds_toArray, List.set_cons_zero, List.set_cons_succ]
      refine wpAnyH_all (rs := [10]) (by kernel_rfl) (by simp) ?_
      intro jj hjj
      simp only [List.mem_cons, List.not_mem_nil, or_false] at hjj
      subst hjj
      refine wpOp_of_wp rfl rfl ?_
      go_simp
      refine (HQ.out.send _ own B0 bs t wid D (HR.out.below HG1.out.st hbal) (HG1.out.di.mono (by omega)) a b c ha hb hc).mono ?_
      rintro e w5 ⟨v5, rfl, ho5, hb5⟩
      have hbX : Below w1.heap.size w1 w5 := bnext hbal hb5
      obtain ⟨s5, rfl⟩ : ∃ s5 : Sl, v5 = .slice s5.p s5.n s5.c := by obtain ⟨p, c, e, _⟩ := ho5.form; exact ⟨⟨p, _, c⟩, e⟩
      have hT2 : (fun w' : World => w'.cell? ⟨bg, 0, none⟩ = some (.pointer (some ⟨bs, 0, none⟩)) ∧ w'.cell? ⟨bx, 1, none⟩ = some (.int .i64 a) ∧ w'.cell? ⟨bx, 2, none⟩ = some (.int .i64 b) ∧ w'.cell? ⟨bx, 3, none⟩ = some (.int .i64 c)) w5 := ⟨cell_keep (w := w1) hbX hT0.1, cell_keep (w := w1) hbX hT0.2.1, cell_keep (w := w1) hbX hT0.2.2.1, cell_keep (w := w1) hbX hT0.2.2.2⟩
      refine ⟨hT2, ?_⟩
      try dsimp only
      try simp only [Act.put, List.getElem_toArray, List.getElem_cons_succ, List.getElem_cons_zero, List.setIfInBounds_toArray, List.set_cons_zero, List.set_cons_succ]
      refine wpAnyH_take (i := 11) (v := (.tuple #[.agg #[.int .i64 (sndF t a b c), .slice s5.p s5.n s5.c], .int .i64 (sndE t a b c)])) rfl (by kernel_rfl) (by kernel_rfl) (by kernel_rfl) (fun _ _ _ h => h) (Or.inl ⟨by rfl, fun wx hx => by go_simp⟩) hT2 ?_
      try dsimp only
      try simp only [Act.put, List.getElem_toArray, List.getElem_cons_succ, List.getElem_cons_zero, List.setIfInBounds_toArray, List.set_cons_zero, List.set_cons_succ]
      refine wpAnyH_take (i := 12) (v := (.agg #[.int .i64 (sndF t a b c), .slice s5.p s5.n s5.c])) rfl (by kernel_rfl) (by kernel_rfl) (by kernel_rfl) (fun _ _ _ h => h) (Or.inl ⟨by rfl, fun wx hx => by go_simp⟩) hT2 ?_
      try dsimp only
      try simp only [Act.put, List.getElem_toArray, List.getElem_cons_succ, List.getElem_cons_zero, List.setIfInBounds_toArray, List.set_cons_zero, List.set_cons_succ]
      refine wpAnyH_take (i := 13) (v := (.int .i64 (sndE t a b c))) rfl (by kernel_rfl) (by kernel_rfl) (by kernel_rfl) (fun _ _ _ h => h) (Or.inl ⟨by rfl, fun wx hx => by go_simp⟩) hT2 ?_
      try dsimp only
      try simp only [Act.put, List.getElem_toArray, List.getElem_cons_succ, List.getElem_cons_zero, List.setIfInBounds_toArray, List.set_cons_zero, List.set_cons_succ]
      refine wpAnyH_all (rs := [15]) (by kernel_rfl) (by simp) ?_
      intro jj hjj
      simp only [List.mem_cons, List.not_mem_nil, or_false] at hjj
      subst hjj
      have G5 := keep hb5 (heap_alloc_new w1.drew (.cells #[.int .i64 0, .slice none 0 0] 31))
      refine wpOp_store_row rfl rfl _ _ _ rfl #[.int .i64 (sndF t a b c), .slice s5.p s5.n s5.c] rfl rfl G5 info_pk rfl (by simp [Value.oneCell']) ?_
      have hbst : Below w1.heap.size w1 (w5.setRow w1.heap.size #[.int .i64 (sndF t a b c), .slice s5.p s5.n s5.c]) := below_setRow _ hbX (Nat.le_refl _)
      have hT3 : (fun w' : World => w'.cell? ⟨bg, 0, none⟩ = some (.pointer (some ⟨bs, 0, none⟩)) ∧ w'.cell? ⟨bx, 1, none⟩ = some (.int .i64 a) ∧ w'.cell? ⟨bx, 2, none⟩ = some (.int .i64 b) ∧ w'.cell? ⟨bx, 3, none⟩ = some (.int .i64 c)) (w5.setRow w1.heap.size #[.int .i64 (sndF t a b c), .slice s5.p s5.n s5.c]) := ⟨cell_keep (w := w1) hbst hT0.1, cell_keep (w := w1) hbst hT0.2.1, cell_keep (w := w1) hbst hT0.2.2.1, cell_keep (w := w1) hbst hT0.2.2.2⟩
      refine ⟨hT3, ?_⟩
      try dsimp only
      try simp only [Act.put, List.getElem_toArray, List.getElem_cons_succ, List.getElem_cons_zero, List.setIfInBounds_toArray, List.set_cons_zero, List.set_cons_succ]
      refine wpAnyH_take (i := 16) (v := (.int .i64 (sndE t a b c))) rfl (by kernel_rfl) (by kernel_rfl) (by kernel_rfl) (fun _ _ _ h => h) (Or.inl ⟨by rfl, fun wx hx => by go_simp⟩) hT3 ?_
      try dsimp only
      try simp only [Act.put, List.getElem_toArray, List.getElem_cons_succ, List.getElem_cons_zero, List.setIfInBounds_toArray, List.set_cons_zero, List.set_cons_succ]
      refine wpAnyH_done (by kernel_rfl) ?_ _
      have GZ := setRow_blk (A := #[.int .i64 (sndF t a b c), .slice s5.p s5.n s5.c]) G5
      have NE : (Value.slice s5.p s5.n s5.c).ownBlock ≠ some w1.heap.size := by
        intro e
        have h1 := (ho5.lt _ e).1
        have h2 : (w1.drew.alloc (.cells #[.int .i64 0, .slice none 0 0] 31)).heap.size = w1.heap.size + 1 := by simp
        omega
      have OZ : Own clIt (w5.setRow w1.heap.size #[.int .i64 (sndF t a b c), .slice s5.p s5.n s5.c]) w1.heap.size 114 (.slice s5.p s5.n s5.c) (sndL t D a b c) := (ho5.mono (by simp; try omega)).chg fun k hk => setRow_other _ _ _ _ (fun e => NE (by rw [hk, e]))
      clear hT0 hT1 hT2 hT3 hbal G5 hb5 hbX ho5
      go_wp2_with fail
      go_meet
      exact ⟨w1.heap.size, s5, rfl, rfl, GZ, Nat.le_refl _, hbst, OZ, NE⟩
  case rest =>
    obtain ⟨ga, sa, rfl, rfl, gA, hga, hbA, hoA, neA⟩ := hcut
    rename World => wc
    have GA : Hid (wc.heap[ga]? = some (.cells #[.int .i64 (sndF t a b c), .slice sa.p sa.n sa.c] 31)) := gA
    have HBA : Hid (Below w1.heap.size w1 wc) := hbA
    have HOA : Hid (Own clIt wc w1.heap.size 114 (.slice sa.p sa.n sa.c) (sndL t D a b c)) := hoA
    have hsA := hbA.size
    have hgac := lt_of_blk gA
    clear gA hbA hoA
    go_upto_region 2 with fail
    obtain ⟨xt, xn, C, W⟩ := (HG1.out.below HR.out HBA.out).wd
    have HWC : Hid (WRep wc own B0 bw t wid D xt xn C) := W
    have d1 : wc.cell? ⟨bg, 1, none⟩ = some (.pointer (some ⟨bw, 0, none⟩)) := cell_keep HBA.out c1
    have xx1 : wc.cell? ⟨bx, 1, none⟩ = some (.int .i64 a) := cell_keep HBA.out x1
    have xx2 : wc.cell? ⟨bx, 2, none⟩ = some (.int .i64 b) := cell_keep HBA.out x2
    have xx3 : wc.cell? ⟨bx, 3, none⟩ = some (.int .i64 c) := cell_keep HBA.out x3
    clear W c0 c1 x1 x2 x3
    go_cut [7, 8] (fun v5 v6 wx => ∃ (ga : Nat) (s : Sl), v5 = .pointer (some ⟨ga, 0, none⟩) ∧ v6 = .int .i64 (sndE t a b c) ∧ wx.heap[ga]? = some (.cells #[.int .i64 (sndF t a b c), .slice s.p s.n s.c] 31) ∧ wc.heap.size ≤ ga ∧ Below wc.heap.size wc wx ∧ Own clIt wx wc.heap.size 114 (.slice s.p s.n s.c) (sndL t D a b c) ∧ (Value.slice s.p s.n s.c).ownBlock ≠ some ga)
    case first =>
      have hT0 : (fun w' : World => w'.cell? ⟨bg, 1, none⟩ = some (.pointer (some ⟨bw, 0, none⟩)) ∧ w'.cell? ⟨bx, 1, none⟩ = some (.int .i64 a) ∧ w'.cell? ⟨bx, 2, none⟩ = some (.int .i64 b) ∧ w'.cell? ⟨bx, 3, none⟩ = some (.int .i64 c)) wc.drew := ⟨d1, xx1, xx2, xx3⟩
      refine wp_region_held (S := fun w' : World => w'.cell? ⟨bg, 1, none⟩ = some (.pointer (some ⟨bw, 0, none⟩)) ∧ w'.cell? ⟨bx, 1, none⟩ = some (.int .i64 a) ∧ w'.cell? ⟨bx, 2, none⟩ = some (.int .i64 b) ∧ w'.cell? ⟨bx, 3, none⟩ = some (.int .i64 c)) mixed ?_
      refine wpAnyH_take (i := 0) (v := (.pointer (some ⟨bg, 0, none⟩))) rfl (by kernel_rfl) (by kernel_rfl) (by kernel_rfl) (fun _ _ _ h => h) (Or.inl ⟨by rfl, fun wx hx => by go_simp⟩) hT0 ?_
      try dsimp only
      try simp only [Act.put, List.getElem_toArray, List.getElem_cons_succ, List.getElem_cons_zero, List.setIfInBounds_toArray, List.set_cons_zero, List.set_cons_succ]
      refine wpAnyH_take (i := 1) (v := (.pointer (some ⟨bg, 0, none⟩))) rfl (by kernel_rfl) (by kernel_rfl) (by kernel_rfl) (fun _ _ _ h => h) (Or.inl ⟨by rfl, fun wx hx => by go_simp⟩) hT0 ?_
      try dsimp only
      try simp only [Act.put, List.getElem_toArray, List.getElem_cons_succ, List.getElem_cons_zero, List.setIfInBounds_toArray, List.set_cons_zero, List.set_cons_succ]
      refine wpAnyH_take (i := 2) (v := (.pointer (some ⟨bg, 1, none⟩))) rfl (by kernel_rfl) (by kernel_rfl) (by kernel_rfl) (fun _ _ _ h => h) (Or.inl ⟨by rfl, fun wx hx => by go_simp⟩) hT0 ?_
      try dsimp only
      try simp only [Act.put, List.getElem_toArray, List.getElem_cons_succ, List.getElem_cons_zero, List.setIfInBounds_toArray, List.set_cons_zero, List.set_cons_succ]
      refine wpAnyH_take (i := 3) (v := (.pointer (some ⟨bw, 0, none⟩))) rfl (by kernel_rfl) (by kernel_rfl) (by kernel_rfl) (fun _ _ _ h => h) (Or.inl ⟨by rfl, fun wx hx => by have hx1 := hx.1; go_simp⟩) hT0 ?_
      try dsimp only
      try simp only [Act.put, List.getElem_toArray, List.getElem_cons_succ, List.getElem_cons_zero, List.setIfInBounds_toArray, List.set_cons_zero, List.set_cons_succ]
      refine wpAnyH_take (i := 4) (v := (.pointer (some ⟨bx, 1, none⟩))) rfl (by kernel_rfl) (by kernel_rfl) (by kernel_rfl) (fun _ _ _ h => h) (Or.inl ⟨by rfl, fun wx hx => by go_simp⟩) hT0 ?_
      try dsimp only
      try simp only [Act.put, List.getElem_toArray, List.getElem_cons_succ, List.getElem_cons_zero, List.setIfInBounds_toArray, List.set_cons_zero, List.set_cons_succ]
      refine wpAnyH_take (i := 5) (v := (.int .i64 a)) rfl (by kernel_rfl) (by kernel_rfl) (by kernel_rfl) (fun _ _ _ h => h) (Or.inl ⟨by rfl, fun wx hx => by have hx1 := hx.2.1; go_simp⟩) hT0 ?_
      try dsimp only
      try simp only [Act.put, List.getElem_toArray, List.getElem_cons_succ, List.getElem_cons_zero, List.setIfInBounds_toArray, List.set_cons_zero, List.set_cons_succ]
      refine wpAnyH_take (i := 6) (v := (.pointer (some ⟨bx, 2, none⟩))) rfl (by kernel_rfl) (by kernel_rfl) (by kernel_rfl) (fun _ _ _ h => h) (Or.inl ⟨by rfl, fun wx hx => by go_simp⟩) hT0 ?_
      try dsimp only
      try simp only [Act.put, List.getElem_toArray, List.getElem_cons_succ, List.getElem_cons_zero, List.setIfInBounds_toArray, List.set_cons_zero, List.set_cons_succ]
      refine wpAnyH_take (i := 7) (v := (.int .i64 b)) rfl (by kernel_rfl) (by kernel_rfl) (by kernel_rfl) (fun _ _ _ h => h) (Or.inl ⟨by rfl, fun wx hx => by have hx1 := hx.2.2.1; go_simp⟩) hT0 ?_
      try dsimp only
      try simp only [Act.put, List.getElem_toArray, List.getElem_cons_succ, List.getElem_cons_zero, List.setIfInBounds_toArray, List.set_cons_zero, List.set_cons_succ]
      refine wpAnyH_take (i := 8) (v := (.pointer (some ⟨bx, 3, none⟩))) rfl (by kernel_rfl) (by kernel_rfl) (by kernel_rfl) (fun _ _ _ h => h) (Or.inl ⟨by rfl, fun wx hx => by go_simp⟩) hT0 ?_
      try dsimp only
      try simp only [Act.put, List.getElem_toArray, List.getElem_cons_succ, List.getElem_cons_zero, List.setIfInBounds_toArray, List.set_cons_zero, List.set_cons_succ]
      refine wpAnyH_take (i := 9) (v := (.int .i64 c)) rfl (by kernel_rfl) (by kernel_rfl) (by kernel_rfl) (fun _ _ _ h => h) (Or.inl ⟨by rfl, fun wx hx => by have hx1 := hx.2.2.2; go_simp⟩) hT0 ?_
      try dsimp only
      try simp only [Act.put, List.getElem_toArray, List.getElem_cons_succ, List.getElem_cons_zero, List.setIfInBounds_toArray, List.set_cons_zero, List.set_cons_succ]
      refine wpAnyH_all (rs := [10, 14]) (by kernel_rfl) (by simp) ?_
      intro jj hjj
      simp only [List.mem_cons, List.not_mem_nil, or_false] at hjj
      rcases hjj with rfl | rfl
      · skip
        refine wpOp_of_wp rfl rfl ?_
        go_simp
        refine (rSend_any wc.drew own B0 bw t wid D _ _ _ (HWC.out.below below_drew) a b c (HG.out.di.kev (by omega))).mono ?_
        rintro e w5 ⟨v5, rfl, ho5, hb5⟩
        replace hb5 : Below wc.heap.size wc w5 := below_drawn' hb5
        replace ho5 : Own clIt w5 wc.heap.size 114 v5 (sndL t D a b c) := ho5
        obtain ⟨s5, rfl⟩ : ∃ s5 : Sl, v5 = .slice s5.p s5.n s5.c := by obtain ⟨p, c, e, _⟩ := ho5.form; exact ⟨⟨p, _, c⟩, e⟩
        have hT1 : (fun w' : World => w'.cell? ⟨bg, 1, none⟩ = some (.pointer (some ⟨bw, 0, none⟩)) ∧ w'.cell? ⟨bx, 1, none⟩ = some (.int .i64 a) ∧ w'.cell? ⟨bx, 2, none⟩ = some (.int .i64 b) ∧ w'.cell? ⟨bx, 3, none⟩ = some (.int .i64 c)) w5 := ⟨cell_keep (w := wc) hb5 hT0.1, cell_keep (w := wc) hb5 hT0.2.1, cell_keep (w := wc) hb5 hT0.2.2.1, cell_keep (w := wc) hb5 hT0.2.2.2⟩
        refine ⟨hT1, ?_⟩
        try dsimp only
        try simp only [Act.put, List.getElem_toArray, List.getElem_cons_succ, List.getElem_cons_zero, List.setIfInBounds_toArray, List.set_cons_zero, List.set_cons_succ]
        refine wpAnyH_take (i := 11) (v := (.tuple #[.agg #[.int .i64 (sndF t a b c), .slice s5.p s5.n s5.c], .int .i64 (sndE t a b c)])) rfl (by kernel_rfl) (by kernel_rfl) (by kernel_rfl) (fun _ _ _ h => h) (Or.inl ⟨by rfl, fun wx hx => by go_simp⟩) hT1 ?_
        try dsimp only
        try simp only [Act.put, List.getElem_toArray, List.getElem_cons_succ, List.getElem_cons_zero, List.setIfInBounds_toArray, List.set_cons_zero, List.set_cons_succ]
        refine wpAnyH_take (i := 12) (v := (.agg #[.int .i64 (sndF t a b c), .slice s5.p s5.n s5.c])) rfl (by kernel_rfl) (by kernel_rfl) (by kernel_rfl) (fun _ _ _ h => h) (Or.inl ⟨by rfl, fun wx hx => by go_simp⟩) hT1 ?_
        try dsimp only
        try simp only [Act.put, List.getElem_toArray, List.getElem_cons_succ, List.getElem_cons_zero, List.setIfInBounds_toArray, List.set_cons_zero, List.set_cons_succ]
        refine wpAnyH_take (i := 13) (v := (.int .i64 (sndE t a b c))) rfl (by kernel_rfl) (by kernel_rfl) (by kernel_rfl) (fun _ _ _ h => h) (Or.inl ⟨by rfl, fun wx hx => by go_simp⟩) hT1 ?_
        try dsimp only
        try simp only [Act.put, List.getElem_toArray, List.getElem_cons_succ, List.getElem_cons_zero, List.setIfInBounds_toArray, List.set_cons_zero, List.set_cons_succ]
        refine wpAnyH_all (rs := [14]) (by kernel_rfl) (by simp) ?_
        intro jj hjj
        simp only [List.mem_cons, List.not_mem_nil, or_false] at hjj
        subst hjj
        refine wpOp_alloc_z rfl rfl _ rfl _ zero_pk ?_
        have hbal : Below wc.heap.size wc (w5.alloc (.cells #[.int .i64 0, .slice none 0 0] 31)) := bnext hb5 (below_alloc _ _)
        have hT2 : (fun w' : World => w'.cell? ⟨bg, 1, none⟩ = some (.pointer (some ⟨bw, 0, none⟩)) ∧ w'.cell? ⟨bx, 1, none⟩ = some (.int .i64 a) ∧ w'.cell? ⟨bx, 2, none⟩ = some (.int .i64 b) ∧ w'.cell? ⟨bx, 3, none⟩ = some (.int .i64 c)) (w5.alloc (.cells #[.int .i64 0, .slice none 0 0] 31)) := ⟨cell_keep (w := wc) hbal hT0.1, cell_keep (w := wc) hbal hT0.2.1, cell_keep (w := wc) hbal hT0.2.2.1, cell_keep (w := wc) hbal hT0.2.2.2⟩
        refine ⟨hT2, ?_⟩
        try dsimp only
        try simp only [Act.put, List.getElem_toArray, List.getElem_cons_succ, List.getElem_cons_zero, List.setIfInBounds_toArray, List.set_cons_zero, List.set_cons_succ]
        refine wpAnyH_all (rs := [15]) (by kernel_rfl) (by simp) ?_
        intro jj hjj
        simp only [List.mem_cons, List.not_mem_nil, or_false] at hjj
        subst hjj
        have G5 := heap_alloc_new w5 (.cells #[.int .i64 0, .slice none 0 0] 31)
        refine wpOp_store_row rfl rfl _ _ _ rfl #[.int .i64 (sndF t a b c), .slice s5.p s5.n s5.c] rfl rfl G5 info_pk rfl (by simp [Value.oneCell']) ?_
        have hsb := hb5.size
        have hbst : Below wc.heap.size wc ((w5.alloc (.cells #[.int .i64 0, .slice none 0 0] 31)).setRow w5.heap.size #[.int .i64 (sndF t a b c), .slice s5.p s5.n s5.c]) := below_setRow _ hbal hsb
        have hT3 : (fun w' : World => w'.cell? ⟨bg, 1, none⟩ = some (.pointer (some ⟨bw, 0, none⟩)) ∧ w'.cell? ⟨bx, 1, none⟩ = some (.int .i64 a) ∧ w'.cell? ⟨bx, 2, none⟩ = some (.int .i64 b) ∧ w'.cell? ⟨bx, 3, none⟩ = some (.int .i64 c)) ((w5.alloc (.cells #[.int .i64 0, .slice none 0 0] 31)).setRow w5.heap.size #[.int .i64 (sndF t a b c), .slice s5.p s5.n s5.c]) := ⟨cell_keep (w := wc) hbst hT0.1, cell_keep (w := wc) hbst hT0.2.1, cell_keep (w := wc) hbst hT0.2.2.1, cell_keep (w := wc) hbst hT0.2.2.2⟩
        refine ⟨hT3, ?_⟩
        try dsimp only
        try simp only [Act.put, List.getElem_toArray, List.getElem_cons_succ, List.getElem_cons_zero, List.setIfInBounds_toArray, List.set_cons_zero, List.set_cons_succ]
        refine wpAnyH_take (i := 16) (v := (.int .i64 (sndE t a b c))) rfl (by kernel_rfl) (by kernel_rfl) (by kernel_rfl) (fun _ _ _ h => h) (Or.inl ⟨by rfl, fun wx hx => by go_simp⟩) hT3 ?_
        try dsimp only
        try simp only [Act.put, List.getElem_toArray, List.getElem_cons_succ, List.getElem_cons_zero, List.setIfInBounds_toArray, List.set_cons_zero, List.set_cons_succ]
        refine wpAnyH_done (by kernel_rfl) ?_ _
        have GZ := setRow_blk (A := #[.int .i64 (sndF t a b c), .slice s5.p s5.n s5.c]) G5
        have NE : (Value.slice s5.p s5.n s5.c).ownBlock ≠ some w5.heap.size := fun e => by have := (ho5.lt _ e).2; omega
        have OZ : Own clIt ((w5.alloc (.cells #[.int .i64 0, .slice none 0 0] 31)).setRow w5.heap.size #[.int .i64 (sndF t a b c), .slice s5.p s5.n s5.c]) wc.heap.size 114 (.slice s5.p s5.n s5.c) (sndL t D a b c) := (ho5.below (below_alloc _ _)).chg fun k hk => setRow_other _ _ _ _ (fun e => NE (by rw [hk, e]))
        clear hT0 hT1 hT2 hT3 hbal G5 hb5 ho5
        go_wp2_with fail
        go_meet
        exact ⟨w5.heap.size, s5, rfl, rfl, GZ, hsb, hbst, OZ, NE⟩
      · skip
        refine wpOp_alloc_z rfl rfl _ rfl _ zero_pk ?_
        have hbal : Below wc.heap.size wc (wc.drew.alloc (.cells #[.int .i64 0, .slice none 0 0] 31)) := below_drawn' (below_alloc wc.drew _)
        have hT1 : (fun w' : World => w'.cell? ⟨bg, 1, none⟩ = some (.pointer (some ⟨bw, 0, none⟩)) ∧ w'.cell? ⟨bx, 1, none⟩ = some (.int .i64 a) ∧ w'.cell? ⟨bx, 2, none⟩ = some (.int .i64 b) ∧ w'.cell? ⟨bx, 3, none⟩ = some (.int .i64 c)) (wc.drew.alloc (.cells #[.int .i64 0, .slice none 0 0] 31)) := ⟨cell_keep (w := wc) hbal hT0.1, cell_keep (w := wc) hbal hT0.2.1, cell_keep (w := wc) hbal hT0.2.2.1, cell_keep (w := wc) hbal hT0.2.2.2⟩
        refine ⟨hT1, ?_⟩
        try dsimp only
        try simp only [Act.put, List.getElem_toArray, List.getElem_cons_succ, List.getElem_cons_zero, List.setIfInBounds_toArray, List.set_cons_zero, List.set_cons_succ]
        refine wpAnyH_all (rs := [10]) (by kernel_rfl) (by simp) ?_
        intro jj hjj
        simp only [List.mem_cons, List.not_mem_nil, or_false] at hjj
        subst hjj
        refine wpOp_of_wp rfl rfl ?_
        go_simp
        refine (rSend_any _ own B0 bw t wid D _ _ _ (HWC.out.below hbal) a b c (HG.out.di.kev (by omega))).mono ?_
        rintro e w5 ⟨v5, rfl, ho5, hb5⟩
        have hbX : Below wc.heap.size wc w5 := bnext hbal hb5
        obtain ⟨s5, rfl⟩ : ∃ s5 : Sl, v5 = .slice s5.p s5.n s5.c := by obtain ⟨p, c, e, _⟩ := ho5.form; exact ⟨⟨p, _, c⟩, e⟩
        have hT2 : (fun w' : World => w'.cell? ⟨bg, 1, none⟩ = some (.pointer (some ⟨bw, 0, none⟩)) ∧ w'.cell? ⟨bx, 1, none⟩ = some (.int .i64 a) ∧ w'.cell? ⟨bx, 2, none⟩ = some (.int .i64 b) ∧ w'.cell? ⟨bx, 3, none⟩ = some (.int .i64 c)) w5 := ⟨cell_keep (w := wc) hbX hT0.1, cell_keep (w := wc) hbX hT0.2.1, cell_keep (w := wc) hbX hT0.2.2.1, cell_keep (w := wc) hbX hT0.2.2.2⟩
        refine ⟨hT2, ?_⟩
        try dsimp only
        try simp only [Act.put, List.getElem_toArray, List.getElem_cons_succ, List.getElem_cons_zero, List.setIfInBounds_toArray, List.set_cons_zero, List.set_cons_succ]
        refine wpAnyH_take (i := 11) (v := (.tuple #[.agg #[.int .i64 (sndF t a b c), .slice s5.p s5.n s5.c], .int .i64 (sndE t a b c)])) rfl (by kernel_rfl) (by kernel_rfl) (by kernel_rfl) (fun _ _ _ h => h) (Or.inl ⟨by rfl, fun wx hx => by go_simp⟩) hT2 ?_
        try dsimp only
        try simp only [Act.put, List.getElem_toArray, List.getElem_cons_succ, List.getElem_cons_zero, List.setIfInBounds_toArray, List.set_cons_zero, List.set_cons_succ]
        refine wpAnyH_take (i := 12) (v := (.agg #[.int .i64 (sndF t a b c), .slice s5.p s5.n s5.c])) rfl (by kernel_rfl) (by kernel_rfl) (by kernel_rfl) (fun _ _ _ h => h) (Or.inl ⟨by rfl, fun wx hx => by go_simp⟩) hT2 ?_
        try dsimp only
        try simp only [Act.put, List.getElem_toArray, List.getElem_cons_succ, List.getElem_cons_zero, List.setIfInBounds_toArray, List.set_cons_zero, List.set_cons_succ]
        refine wpAnyH_take (i := 13) (v := (.int .i64 (sndE t a b c))) rfl (by kernel_rfl) (by kernel_rfl) (by kernel_rfl) (fun _ _ _ h => h) (Or.inl ⟨by rfl, fun wx hx => by go_simp⟩) hT2 ?_
        try dsimp only
        try simp only [Act.put, List.getElem_toArray, List.getElem_cons_succ, List.getElem_cons_zero, List.setIfInBounds_toArray, List.set_cons_zero, List.set_cons_succ]
        refine wpAnyH_all (rs := [15]) (by kernel_rfl) (by simp) ?_
        intro jj hjj
        simp only [List.mem_cons, List.not_mem_nil, or_false] at hjj
        subst hjj
        have G5 := keep hb5 (heap_alloc_new wc.drew (.cells #[.int .i64 0, .slice none 0 0] 31))
        refine wpOp_store_row rfl rfl _ _ _ rfl #[.int .i64 (sndF t a b c), .slice s5.p s5.n s5.c] rfl rfl G5 info_pk rfl (by simp [Value.oneCell']) ?_
        have hbst : Below wc.heap.size wc (w5.setRow wc.heap.size #[.int .i64 (sndF t a b c), .slice s5.p s5.n s5.c]) := below_setRow _ hbX (Nat.le_refl _)
        have hT3 : (fun w' : World => w'.cell? ⟨bg, 1, none⟩ = some (.pointer (some ⟨bw, 0, none⟩)) ∧ w'.cell? ⟨bx, 1, none⟩ = some (.int .i64 a) ∧ w'.cell? ⟨bx, 2, none⟩ = some (.int .i64 b) ∧ w'.cell? ⟨bx, 3, none⟩ = some (.int .i64 c)) (w5.setRow wc.heap.size #[.int .i64 (sndF t a b c), .slice s5.p s5.n s5.c]) := ⟨cell_keep (w := wc) hbst hT0.1, cell_keep (w := wc) hbst hT0.2.1, cell_keep (w := wc) hbst hT0.2.2.1, cell_keep (w := wc) hbst hT0.2.2.2⟩
        refine ⟨hT3, ?_⟩
        try dsimp only
        try simp only [Act.put, List.getElem_toArray, List.getElem_cons_succ, List.getElem_cons_zero, List.setIfInBounds_toArray, List.set_cons_zero, List.set_cons_succ]
        refine wpAnyH_take (i := 16) (v := (.int .i64 (sndE t a b c))) rfl (by kernel_rfl) (by kernel_rfl) (by kernel_rfl) (fun _ _ _ h => h) (Or.inl ⟨by rfl, fun wx hx => by go_simp⟩) hT3 ?_
        try dsimp only
        try simp only [Act.put, List.getElem_toArray, List.getElem_cons_succ, List.getElem_cons_zero, List.setIfInBounds_toArray, List.set_cons_zero, List.set_cons_succ]
        refine wpAnyH_done (by kernel_rfl) ?_ _
        have GZ := setRow_blk (A := #[.int .i64 (sndF t a b c), .slice s5.p s5.n s5.c]) G5
        have NE : (Value.slice s5.p s5.n s5.c).ownBlock ≠ some wc.heap.size := by
          intro e
          have h1 := (ho5.lt _ e).1
          have h2 : (wc.drew.alloc (.cells #[.int .i64 0, .slice none 0 0] 31)).heap.size = wc.heap.size + 1 := by simp
          omega
        have OZ : Own clIt (w5.setRow wc.heap.size #[.int .i64 (sndF t a b c), .slice s5.p s5.n s5.c]) wc.heap.size 114 (.slice s5.p s5.n s5.c) (sndL t D a b c) := (ho5.mono (by simp; try omega)).chg fun k hk => setRow_other _ _ _ _ (fun e => NE (by rw [hk, e]))
        clear hT0 hT1 hT2 hT3 hbal G5 hb5 hbX ho5
        go_wp2_with fail
        go_meet
        exact ⟨wc.heap.size, s5, rfl, rfl, GZ, Nat.le_refl _, hbst, OZ, NE⟩
    case rest =>
      obtain ⟨gb, sb, rfl, rfl, gB, hgb, hbB, hoB, neB⟩ := hcut
      rename World => wd
      have HBB : Hid (Below w.heap.size w wd) := bnext (bnext HB1.out HBA.out) hbB
      have GA' : Hid (wd.heap[ga]? = some (.cells #[.int .i64 (sndF t a b c), .slice sa.p sa.n sa.c] 31)) := keep hbB GA.out
      have GB' : Hid (wd.heap[gb]? = some (.cells #[.int .i64 (sndF t a b c), .slice sb.p sb.n sb.c] 31)) := gB
      have HOA' : Hid (Own clIt wd w1.heap.size 114 (.slice sa.p sa.n sa.c) (sndL t D a b c)) := HOA.out.below hbB
      have HOB' : Hid (Own clIt wd wc.heap.size 114 (.slice sb.p sb.n sb.c) (sndL t D a b c)) := hoB
      have HAL : Hid (∀ k, (Value.slice sa.p sa.n sa.c).ownBlock = some k → w1.heap.size ≤ k ∧ k < wc.heap.size) := HOA.out.lt
      have HSL : Hid (AllOkI (sndL t D a b c) ∧ (sndL t D a b c).length ≤ 160) := sndL_ok HWC.out HG.out.di (by omega) a b c
      have HSS : Hid ((sndL t D a b c).length = sa.n ∧ (sndL t D a b c).length = sb.n ∧ RowsAt clIt wd sa.p (sndL t D a b c) ∧ RowsAt clIt wd sb.p (sndL t D a b c)) := ⟨(Own.sl (s := sa) HOA'.out).1, (Own.sl (s := sb) hoB).1, (Own.sl (s := sa) HOA'.out).2, (Own.sl (s := sb) hoB).2⟩
      have HS23 : Hid (sb.n = sa.n) := by have h1 := HSS.out.1; have h2 := HSS.out.2.1; unfold Hid; omega
      have a1 : wd.cell? ⟨ga, 1, none⟩ = some (.slice sa.p sa.n sa.c) := by rw [cell_of_row _ _ _ _ _ _ GA'.out]; rfl
      have a0 : wd.cell? ⟨ga, 0, none⟩ = some (.int .i64 (sndF t a b c)) := by rw [cell_of_row _ _ _ _ _ _ GA'.out]; rfl
      have b1 : wd.cell? ⟨gb, 1, none⟩ = some (.slice sb.p sb.n sb.c) := by rw [cell_of_row _ _ _ _ _ _ GB'.out]; rfl
      have b0 : wd.cell? ⟨gb, 0, none⟩ = some (.int .i64 (sndF t a b c)) := by rw [cell_of_row _ _ _ _ _ _ GB'.out]; rfl
      have HEB : Hid (fitsI (sndE t a b c)) := sndE_fit t a b c
      have HFF : Hid (fitsI (sndF t a b c)) := sndF_fit t a b c HWC.out.T.le
      obtain ⟨ef, hef⟩ : ∃ ef, sndE t a b c = ef := ⟨_, rfl⟩
      have HEF : Hid (sndE t a b c = ef) := hef
      obtain ⟨ff, hff⟩ : ∃ ff, sndF t a b c = ff := ⟨_, rfl⟩
      rw [hef] at HEB ⊢
      rw [hff] at a0 b0 HFF GB' GA'
      have HND : Hid ((Value.slice sb.p sb.n sb.c).ownBlock ≠ some gb) := neB
      have HNA : Hid ((Value.slice sa.p sa.n sa.c).ownBlock ≠ some ga) := neA
      have hsB := hbB.size
      have hgbd := lt_of_blk gB
      clear gB hbB hoB hef hff GA HBA d1 xx1 xx2 xx3 neB neA
      go_upto_region 5 with (first | (go_at_call 39; rw [HS23.out]; refine (same_any (sndL t D a b c) HSL.out.1 _ _ sa.n _ _ _ HSS.out.1 HSS.out.2.2.1 HSS.out.2.2.2 (by have h1 := HSS.out.1; have h2 := HSL.out.2; omega)).mono ?_; rintro e w4 ⟨rfl, hb4⟩; replace a0 := cell_keep hb4 a0; replace a1 := cell_keep hb4 a1; replace b0 := cell_keep hb4 b0; replace b1 := cell_keep hb4 b1; have HB4 : Hid (Below w.heap.size w w4) := bnext HBB.out hb4; have HO4 : Hid (Own clIt w4 w1.heap.size 114 (.slice sa.p sa.n sa.c) (sndL t D a b c)) := HOA'.out.below hb4; have HP4 : Hid (Own clIt w4 wc.heap.size 114 (.slice sb.p sb.n sb.c) (sndL t D a b c)) := HOB'.out.below hb4; have G4 : Hid (w4.heap[gb]? = some (.cells #[.int .i64 ff, .slice sb.p sb.n sb.c] 31)) := keep hb4 GB'.out; have hs4 := hb4.size; clear hb4) | (go_at_call 19; refine (num_any _ _ HEB.out).mono ?_; rintro e wA ⟨rfl, hwA⟩; have hwA := hwA.symm; subst hwA))
      rename World => w4
      obtain ⟨own2, hown2⟩ : ∃ own2 : Ghost, own2 = fun k => if k = ga ∨ k = gb then .arg else if (Value.slice sb.p sb.n sb.c).ownBlock = some k then .ldI else own k := ⟨_, rfl⟩
      have HOG : Hid (own2 gb = .arg) := by unfold Hid; rw [hown2]; exact if_pos (.inr rfl)
      have HOGA : Hid (own2 ga = .arg) := by unfold Hid; rw [hown2]; exact if_pos (.inl rfl)
      have HBB' : Hid (∀ k, (Value.slice sb.p sb.n sb.c).ownBlock = some k → wc.heap.size ≤ k) := fun k hk => (HOB'.out.lt k hk).1
      have HOL : Hid (∀ k, (Value.slice sb.p sb.n sb.c).ownBlock = some k → own2 k = .ldI) := fun k hk => by
        rw [hown2]
        have h0 := HBB'.out k hk
        have hne : ¬ (k = ga ∨ k = gb) := by
          rintro (e | e)
          · omega
          · exact HND.out (by rw [← e]; exact hk)
        simp only [if_neg hne, if_pos hk]
      have hw1s := HB1.out.size
      have HOW : Hid (∀ k, k < wc.heap.size → k ≠ ga → own2 k = own k) := fun k hk hka => by
        rw [hown2]
        have h1 : ¬ (k = ga ∨ k = gb) := by omega
        have h2 : ¬ (Value.slice sb.p sb.n sb.c).ownBlock = some k := fun e => by have := HBB'.out k e; omega
        simp only [if_neg h1, if_neg h2]
      have HGA : Hid (GD SR w4 own2 B0 bg bs bw t wid m D vl vt vd L T PK) := (HG.out.below HR.out HB4.out).chg HR.out (Fr.refl _ _ _) fun k hk hf => by
        by_cases e : k < w.heap.size
        · exact HOW.out k (by omega) (by omega)
        · exact absurd (HFR.out k (by omega)) hf
      have HTF : Hid (TgV own2 (.slice sa.p sa.n sa.c) .free) := fun k hk => by
        have h1 := HAL.out k hk
        rw [HOW.out k h1.2 (fun e => HNA.out (by rw [← e]; exact hk))]; exact HFR.out k (by omega)
      have HPK : Hid (PkIn w4 own2 ⟨ff, sb⟩) := ⟨HFF.out, sndL t D a b c, HSS.out.2.1, (Own.sl (s := sb) HP4.out).2, HSL.out.1, by have h1 := HSS.out.2.1; have h2 := HSL.out.2; show sb.n ≤ 160; omega, fun b' off e => by
        have h1 := HP4.out.block_sl b' off e
        exact ⟨(HP4.out.lt b' h1).2, HOL.out b' h1⟩⟩
      have HBL : Hid (∀ k, k < w.heap.size → own2 k = own k) := fun k hk => HOW.out k (by omega) (by omega)
      clear hown2 HOW HOL HOA HOA' HOB' HP4 a0 b0 b1
      have hT0 : (fun w' : World => w'.cell? ⟨ga, 1, none⟩ = some (.slice sa.p sa.n sa.c)) w4.drew := a1
      refine wp_region_held (S := fun w' : World => w'.cell? ⟨ga, 1, none⟩ = some (.slice sa.p sa.n sa.c)) mixed ?_
      refine wpAnyH_take (i := 0) (v := (.pointer (some ⟨bg, 0, none⟩))) rfl (by kernel_rfl) (by kernel_rfl) (by kernel_rfl) (fun _ _ _ h => h) (Or.inl ⟨by rfl, fun wx hx => by go_simp⟩) hT0 ?_
      try dsimp only
      try simp only [Act.put, List.getElem_toArray, List.getElem_cons_succ, List.getElem_cons_zero, List.setIfInBounds_toArray, List.set_cons_zero, List.set_cons_succ]
      refine wpAnyH_take (i := 1) (v := (.pointer (some ⟨bg, 0, none⟩))) rfl (by kernel_rfl) (by kernel_rfl) (by kernel_rfl) (fun _ _ _ h => h) (Or.inl ⟨by rfl, fun wx hx => by go_simp⟩) hT0 ?_
      try dsimp only
      try simp only [Act.put, List.getElem_toArray, List.getElem_cons_succ, List.getElem_cons_zero, List.setIfInBounds_toArray, List.set_cons_zero, List.set_cons_succ]
      refine wpAnyH_take (i := 2) (v := (.pointer (some ⟨bg, 3, none⟩))) rfl (by kernel_rfl) (by kernel_rfl) (by kernel_rfl) (fun _ _ _ h => h) (Or.inl ⟨by rfl, fun wx hx => by go_simp⟩) hT0 ?_
      try dsimp only
      try simp only [Act.put, List.getElem_toArray, List.getElem_cons_succ, List.getElem_cons_zero, List.setIfInBounds_toArray, List.set_cons_zero, List.set_cons_succ]
      refine wpAnyH_take (i := 3) (v := (.pointer (some ⟨ga, 1, none⟩))) rfl (by kernel_rfl) (by kernel_rfl) (by kernel_rfl) (fun _ _ _ h => h) (Or.inl ⟨by rfl, fun wx hx => by go_simp⟩) hT0 ?_
      try dsimp only
      try simp only [Act.put, List.getElem_toArray, List.getElem_cons_succ, List.getElem_cons_zero, List.setIfInBounds_toArray, List.set_cons_zero, List.set_cons_succ]
      refine wpAnyH_take (i := 4) (v := (.slice sa.p sa.n sa.c)) rfl (by kernel_rfl) (by kernel_rfl) (by kernel_rfl) (fun _ _ _ h => h) (Or.inl ⟨by rfl, fun wx hx => by have hx1 := hx; go_simp⟩) hT0 ?_
      try dsimp only
      try simp only [Act.put, List.getElem_toArray, List.getElem_cons_succ, List.getElem_cons_zero, List.setIfInBounds_toArray, List.set_cons_zero, List.set_cons_succ]
      refine wpAnyH_all (rs := [5]) (by kernel_rfl) (by simp) ?_
      intro jj hjj
      simp only [List.mem_cons, List.not_mem_nil, or_false] at hjj
      subst hjj
      refine wpOp_of_wp rfl rfl ?_
      go_simp
      have gd4 : GD SR w4.drew own2 B0 bg bs bw t wid m D vl vt vd L T PK := HGA.out.below HR.out below_drew
      refine (keep_any bg _ _ _ _ _ w4.drew own2 B0 w1.heap.size L T gd4.gb.bk gd4.gb.game gd4.gb.gm (by have := gd4.ll; omega) _ _ (HO4.out.below below_drew) HTF.out (by have := HSL.out.2; omega) gd4.gb.b0 (by show w1.heap.size ≤ w4.heap.size; omega)).mono ?_
      rintro e w5 ⟨rfl, vl', vt', L', T', own3, hg5, hbk5, hl5, hsm5, hfr5⟩
      obtain ⟨sl5, st5, e51, e52, g5⟩ := gd4.kept HR.out hg5 hbk5 hl5 hsm5 hfr5
      have HG5 : Hid (GD SR w5 own3 B0 bg bs bw t wid (m + 1) D sl5 st5 vd L' T' PK) := g5
      replace hsm5 : Same w4 own2 own3 := hsm5
      replace hfr5 : Fr own2 (fun t => t = .gm ∨ t = .bL ∨ t = .bT) w4 w5 := fr_drew hfr5
      have HSM : Hid (Same w4 own2 own3 ∧ Fr own2 (fun t => t = .gm ∨ t = .bL ∨ t = .bT) w4 w5) := ⟨hsm5, hfr5⟩
      have HPK5 : Hid (PkIn w5 own3 ⟨ff, sb⟩) := HPK.out.chg hfr5 hsm5 (by simp)
      have G5 : Hid (w5.heap[gb]? = some (.cells #[.int .i64 ff, .slice sb.p sb.n sb.c] 31)) := by unfold Hid; rw [hfr5.block gb (lt_of_blk G4.out) (by rw [HOG.out]; simp) (by rw [HOG.out]; simp)]; exact G4.out
      have hT1 : (fun w' : World => w'.cell? ⟨ga, 1, none⟩ = some (.slice sa.p sa.n sa.c)) w5 := cell_fr hfr5 a1 (by rw [HOGA.out]; simp) (by rw [HOGA.out]; simp)
      refine ⟨hT1, ?_⟩
      try dsimp only
      try simp only [Act.put, List.getElem_toArray, List.getElem_cons_succ, List.getElem_cons_zero, List.setIfInBounds_toArray, List.set_cons_zero, List.set_cons_succ]
      refine wpAnyH_done (by kernel_rfl) ?_ _
      clear hT0 hT1 gd4 g5 hg5 hbk5 hl5 hsm5 hfr5 a1 e51 e52 G4 HPK HG HG1
      by_cases h0 : ef = 0
      · subst h0
        go_upto_region 7 with fail
        obtain ⟨⟨vp, vn, vc⟩, hvd⟩ : ∃ v0 : Sl, v0 = vd := ⟨_, rfl⟩
        have HV : Hid (Own clPk w5 B0 31 (.slice vp vn vc) PK) := by have := HG5.out.gb.od; rw [← hvd] at this; exact this
        have c2 : w5.cell? ⟨bg, 2, none⟩ = some (.slice vp vn vc) := by rw [cell_of_row _ _ _ _ _ _ HG5.out.gb.game, ← hvd]; rfl
        have f2 : ∃ cur, w5.heap[bg]? = some (.cells cur 42) := ⟨_, HG5.out.gb.game⟩
        have HF2 : Hid (∃ cur, w5.heap[bg]? = some (.cells cur 42)) := f2
        have hnb : (Value.slice vp vn vc).ownBlock ≠ some bg := fun e => by
          have h1 := HG5.out.gb.td
          rw [← hvd] at h1
          have := h1 bg e
          rw [HG5.out.gb.gm] at this; cases this
        have hng : (Value.slice vp vn vc).ownBlock ≠ some gb := fun e => by
          have h1 := HG5.out.gb.td
          rw [← hvd] at h1
          have := h1 gb e
          rw [HSM.out.1 gb (by omega) (by rw [HOG.out]; simp), HOG.out] at this; cases this
        have hb05 := HG5.out.gb.b0
        have hlp : PK.length ≤ m + 1 := HG5.out.lp
        have hlp0 : PK.length ≤ m := HGA.out.lp
        have hbg5 : bg < w5.heap.size := lt_of_blk HG5.out.gb.game
        have hgb5 : gb < w5.heap.size := lt_of_blk G5.out
        have HVD : Hid ((⟨vp, vn, vc⟩ : Sl) = vd) := hvd
        clear f2 hvd
        have hT0 : (fun w' : World => w'.heap[gb]? = some (.cells #[.int .i64 ff, .slice sb.p sb.n sb.c] 31)) w5.drew := G5.out
        refine wp_region_held (S := fun w' : World => w'.heap[gb]? = some (.cells #[.int .i64 ff, .slice sb.p sb.n sb.c] 31)) mixed ?_
        refine wpAnyH_take (i := 0) (v := (.pointer (some ⟨bg, 0, none⟩))) rfl (by kernel_rfl) (by kernel_rfl) (by kernel_rfl) (fun _ _ _ h => h) (Or.inl ⟨by rfl, fun wx hx => by go_simp⟩) hT0 ?_
        try dsimp only
        try simp only [Act.put, List.getElem_toArray, List.getElem_cons_succ, List.getElem_cons_zero, List.setIfInBounds_toArray, List.set_cons_zero, List.set_cons_succ]
        refine wpAnyH_take (i := 1) (v := (.pointer (some ⟨bg, 0, none⟩))) rfl (by kernel_rfl) (by kernel_rfl) (by kernel_rfl) (fun _ _ _ h => h) (Or.inl ⟨by rfl, fun wx hx => by go_simp⟩) hT0 ?_
        try dsimp only
        try simp only [Act.put, List.getElem_toArray, List.getElem_cons_succ, List.getElem_cons_zero, List.setIfInBounds_toArray, List.set_cons_zero, List.set_cons_succ]
        refine wpAnyH_take (i := 2) (v := (.pointer (some ⟨bg, 0, none⟩))) rfl (by kernel_rfl) (by kernel_rfl) (by kernel_rfl) (fun _ _ _ h => h) (Or.inl ⟨by rfl, fun wx hx => by go_simp⟩) hT0 ?_
        try dsimp only
        try simp only [Act.put, List.getElem_toArray, List.getElem_cons_succ, List.getElem_cons_zero, List.setIfInBounds_toArray, List.set_cons_zero, List.set_cons_succ]
        refine wpAnyH_take (i := 3) (v := (.pointer (some ⟨bg, 2, none⟩))) rfl (by kernel_rfl) (by kernel_rfl) (by kernel_rfl) (fun _ _ _ h => h) (Or.inl ⟨by rfl, fun wx hx => by go_simp⟩) hT0 ?_
        try dsimp only
        try simp only [Act.put, List.getElem_toArray, List.getElem_cons_succ, List.getElem_cons_zero, List.setIfInBounds_toArray, List.set_cons_zero, List.set_cons_succ]
        refine wpAnyH_take (i := 5) (v := (.agg #[.int .i64 ff, .slice sb.p sb.n sb.c])) rfl (by kernel_rfl) (by kernel_rfl) (by kernel_rfl) (fun _ _ _ h => h) (yieldsIf_load_pk (by rfl) _ rfl _ rfl _ _ (fun wx hx => hx)) hT0 ?_
        try dsimp only
        try simp only [Act.put, List.getElem_toArray, List.getElem_cons_succ, List.getElem_cons_zero, List.setIfInBounds_toArray, List.set_cons_zero, List.set_cons_succ]
        refine wpAnyH_all (rs := [4, 6]) (by kernel_rfl) (by simp) ?_
        intro jj hjj
        simp only [List.mem_cons, List.not_mem_nil, or_false] at hjj
        rcases hjj with rfl | rfl
        · skip
          refine wpOp_of_wp rfl rfl (hideK ?_)
          intro K' hK'
          go_simp
          rw [hK'.out]
          refine ⟨hT0, ?_⟩
          try dsimp only
          try simp only [Act.put, List.getElem_toArray, List.getElem_cons_succ, List.getElem_cons_zero, List.setIfInBounds_toArray, List.set_cons_zero, List.set_cons_succ]
          refine wpAnyH_all (rs := [6]) (by kernel_rfl) (by simp) ?_
          intro jj hjj
          simp only [List.mem_cons, List.not_mem_nil, or_false] at hjj
          subst hjj
          refine wpOp_build1_pk rfl rfl _ rfl ⟨ff, sb⟩ rfl ?_
          intro R1
          have hT1 : (fun w' : World => w'.heap[gb]? = some (.cells #[.int .i64 ff, .slice sb.p sb.n sb.c] 31)) (w5.drew.alloc (.cells (flat clPk [(⟨ff, sb⟩ : Pk)]).toArray 31)) := (Below.heap_alloc w5.drew _ gb hgb5).trans G5.out
          refine ⟨hT1, ?_⟩
          try dsimp only
          try simp only [Act.put, List.getElem_toArray, List.getElem_cons_succ, List.getElem_cons_zero, List.setIfInBounds_toArray, List.set_cons_zero, List.set_cons_succ]
          refine wpAnyH_all (rs := [7]) (by kernel_rfl) (by simp) ?_
          intro jj hjj
          simp only [List.mem_cons, List.not_mem_nil, or_false] at hjj
          subst hjj
          refine wpOp_append_pk rfl rfl _ _ rfl B0 _ _ rfl (by exact HV.out.below (below_drawn' (below_alloc w5.drew _))) _ 1 _ _ rfl rfl R1 (by omega) (by omega) (by simp; omega) ?_
          intro v1 w6 o6 g6 t6 f6
          obtain ⟨gn, cn, rfl⟩ := f6
          have hl1 : (PK ++ [(⟨ff, sb⟩ : Pk)]).length = PK.length + 1 := by simp
          rw [hl1] at o6 t6 ⊢
          have e6 : ∀ k, k < w5.heap.size → (Value.slice vp vn vc).ownBlock ≠ some k → w6.heap[k]? = w5.heap[k]? := fun k hk hne => by rw [g6.block k (by simp; omega) (fun e => hne e.symm)]; exact Below.heap_alloc w5.drew _ k hk
          have hT2 : (fun w' : World => w'.heap[gb]? = some (.cells #[.int .i64 ff, .slice sb.p sb.n sb.c] 31)) w6 := by show w6.heap[gb]? = _; rw [e6 gb hgb5 hng]; exact G5.out
          refine ⟨hT2, ?_⟩
          try dsimp only
          try simp only [Act.put, List.getElem_toArray, List.getElem_cons_succ, List.getElem_cons_zero, List.setIfInBounds_toArray, List.set_cons_zero, List.set_cons_succ]
          refine wpAnyH_take (i := 8) (v := (.pointer (some ⟨bg, 0, none⟩))) rfl (by kernel_rfl) (by kernel_rfl) (by kernel_rfl) (fun _ _ _ h => h) (Or.inl ⟨by rfl, fun wx hx => by go_simp⟩) hT2 ?_
          try dsimp only
          try simp only [Act.put, List.getElem_toArray, List.getElem_cons_succ, List.getElem_cons_zero, List.setIfInBounds_toArray, List.set_cons_zero, List.set_cons_succ]
          refine wpAnyH_take (i := 9) (v := (.pointer (some ⟨bg, 2, none⟩))) rfl (by kernel_rfl) (by kernel_rfl) (by kernel_rfl) (fun _ _ _ h => h) (Or.inl ⟨by rfl, fun wx hx => by go_simp⟩) hT2 ?_
          try dsimp only
          try simp only [Act.put, List.getElem_toArray, List.getElem_cons_succ, List.getElem_cons_zero, List.setIfInBounds_toArray, List.set_cons_zero, List.set_cons_succ]
          refine wpAnyH_all (rs := [10]) (by kernel_rfl) (by simp) ?_
          intro jj hjj
          simp only [List.mem_cons, List.not_mem_nil, or_false] at hjj
          subst hjj
          have cx : w6.cell? ⟨bg, 2, none⟩ = some (.slice vp vn vc) := by rw [World.cell?_of_block (w := w5) (e6 bg hbg5 hnb)]; exact c2
          have fx : w6.frozen? ⟨bg, 2, none⟩ = false := by obtain ⟨cur, hcur⟩ := HF2.out; exact frozen_of_row _ _ _ _ _ ((e6 bg hbg5 hnb).trans hcur)
          have hT3 : (fun w' : World => w'.heap[gb]? = some (.cells #[.int .i64 ff, .slice sb.p sb.n sb.c] 31)) (w6.setCell ⟨bg, 2, none⟩ (.slice (some ⟨gn, 0, none⟩) (PK.length + 1) cn)) := by
            show (w6.setCell _ _).heap[gb]? = _
            rw [heap_setCell_other _ _ _ _ (by show gb ≠ bg; intro e; have h1 := HG5.out.gb.gm; rw [← e, HSM.out.1 gb (by omega) (by rw [HOG.out]; simp), HOG.out] at h1; cases h1)]; exact hT2
          refine wpOp_of_wp rfl rfl (hideK ?_)
          intro K' hK'
          go_simp
          rw [hK'.out]
          refine ⟨hT3, ?_⟩
          try dsimp only
          try simp only [Act.put, List.getElem_toArray, List.getElem_cons_succ, List.getElem_cons_zero, List.setIfInBounds_toArray, List.set_cons_zero, List.set_cons_succ]
          refine wpAnyH_done (by kernel_rfl) ?_ _
          have Z : Hid (∃ own', GD SR (w6.setCell ⟨bg, 2, none⟩ (.slice (some ⟨gn, 0, none⟩) (PK.length + 1) cn)) own' B0 bg bs bw t wid (m + 1) D sl5 st5 ⟨some ⟨gn, 0, none⟩, PK.length + 1, cn⟩ L' T' (PK ++ [(⟨ff, sb⟩ : Pk)]) ∧ Same w5 own3 own' ∧ Fr own3 (fun t => t = .gm ∨ t = .ld) w5 (w6.setCell ⟨bg, 2, none⟩ (.slice (some ⟨gn, 0, none⟩) (PK.length + 1) cn))) :=
            HG5.out.laid HR.out (Nat.le_refl _) (by omega) (below_drawn' (below_alloc w5.drew (.cells (flat clPk [(⟨ff, sb⟩ : Pk)]).toArray 31))) ⟨ff, sb⟩ HPK5.out ⟨some ⟨gn, 0, none⟩, PK.length + 1, cn⟩ o6 (by rw [← HVD.out]; exact g6) (by rw [← HVD.out]; exact t6)
          clear hT0 hT1 hT2 hT3 o6 g6 t6 e6 cx fx R1 c2 hl1
          go_wp2
          go_ret
          obtain ⟨own4, z1, z2, z3⟩ := Z.out
          refine ⟨rfl, Nx.mk HB4.out HBL.out ⟨D, sl5, st5, _, L', T', _, z1⟩ (HSM.out.1.trans HSM.out.2.size z2) ?_⟩
          exact (HSM.out.2.mono (S' := notArg) fun t h => by rcases h with rfl | rfl | rfl <;> simp [notArg]).trans HSM.out.1 (z3.mono fun t h => by rcases h with rfl | rfl <;> simp [notArg])
        · skip
          refine wpOp_build1_pk rfl rfl _ rfl ⟨ff, sb⟩ rfl ?_
          intro R1
          have hT1 : (fun w' : World => w'.heap[gb]? = some (.cells #[.int .i64 ff, .slice sb.p sb.n sb.c] 31)) (w5.drew.alloc (.cells (flat clPk [(⟨ff, sb⟩ : Pk)]).toArray 31)) := (Below.heap_alloc w5.drew _ gb hgb5).trans G5.out
          refine ⟨hT1, ?_⟩
          try dsimp only
          try simp only [Act.put, List.getElem_toArray, List.getElem_cons_succ, List.getElem_cons_zero, List.setIfInBounds_toArray, List.set_cons_zero, List.set_cons_succ]
          have c2' : (w5.drew.alloc (.cells (flat clPk [(⟨ff, sb⟩ : Pk)]).toArray 31)).cell? ⟨bg, 2, none⟩ = some (.slice vp vn vc) := cell_keep (below_alloc w5.drew _) c2
          refine wpAnyH_all (rs := [4]) (by kernel_rfl) (by simp) ?_
          intro jj hjj
          simp only [List.mem_cons, List.not_mem_nil, or_false] at hjj
          subst hjj
          refine wpOp_of_wp rfl rfl (hideK ?_)
          intro K' hK'
          go_simp
          rw [hK'.out]
          refine ⟨hT1, ?_⟩
          try dsimp only
          try simp only [Act.put, List.getElem_toArray, List.getElem_cons_succ, List.getElem_cons_zero, List.setIfInBounds_toArray, List.set_cons_zero, List.set_cons_succ]
          clear c2'
          refine wpAnyH_all (rs := [7]) (by kernel_rfl) (by simp) ?_
          intro jj hjj
          simp only [List.mem_cons, List.not_mem_nil, or_false] at hjj
          subst hjj
          refine wpOp_append_pk rfl rfl _ _ rfl B0 _ _ rfl (by exact HV.out.below (below_drawn' (below_alloc w5.drew _))) _ 1 _ _ rfl rfl R1 (by omega) (by omega) (by simp; omega) ?_
          intro v1 w6 o6 g6 t6 f6
          obtain ⟨gn, cn, rfl⟩ := f6
          have hl1 : (PK ++ [(⟨ff, sb⟩ : Pk)]).length = PK.length + 1 := by simp
          rw [hl1] at o6 t6 ⊢
          have e6 : ∀ k, k < w5.heap.size → (Value.slice vp vn vc).ownBlock ≠ some k → w6.heap[k]? = w5.heap[k]? := fun k hk hne => by rw [g6.block k (by simp; omega) (fun e => hne e.symm)]; exact Below.heap_alloc w5.drew _ k hk
          have hT2 : (fun w' : World => w'.heap[gb]? = some (.cells #[.int .i64 ff, .slice sb.p sb.n sb.c] 31)) w6 := by show w6.heap[gb]? = _; rw [e6 gb hgb5 hng]; exact G5.out
          refine ⟨hT2, ?_⟩
          try dsimp only
          try simp only [Act.put, List.getElem_toArray, List.getElem_cons_succ, List.getElem_cons_zero, List.setIfInBounds_toArray, List.set_cons_zero, List.set_cons_succ]
          refine wpAnyH_take (i := 8) (v := (.pointer (some ⟨bg, 0, none⟩))) rfl (by kernel_rfl) (by kernel_rfl) (by kernel_rfl) (fun _ _ _ h => h) (Or.inl ⟨by rfl, fun wx hx => by go_simp⟩) hT2 ?_
          try dsimp only
          try simp only [Act.put, List.getElem_toArray, List.getElem_cons_succ, List.getElem_cons_zero, List.setIfInBounds_toArray, List.set_cons_zero, List.set_cons_succ]
          refine wpAnyH_take (i := 9) (v := (.pointer (some ⟨bg, 2, none⟩))) rfl (by kernel_rfl) (by kernel_rfl) (by kernel_rfl) (fun _ _ _ h => h) (Or.inl ⟨by rfl, fun wx hx => by go_simp⟩) hT2 ?_
          try dsimp only
          try simp only [Act.put, List.getElem_toArray, List.getElem_cons_succ, List.getElem_cons_zero, List.setIfInBounds_toArray, List.set_cons_zero, List.set_cons_succ]
          refine wpAnyH_all (rs := [10]) (by kernel_rfl) (by simp) ?_
          intro jj hjj
          simp only [List.mem_cons, List.not_mem_nil, or_false] at hjj
          subst hjj
          have cx : w6.cell? ⟨bg, 2, none⟩ = some (.slice vp vn vc) := by rw [World.cell?_of_block (w := w5) (e6 bg hbg5 hnb)]; exact c2
          have fx : w6.frozen? ⟨bg, 2, none⟩ = false := by obtain ⟨cur, hcur⟩ := HF2.out; exact frozen_of_row _ _ _ _ _ ((e6 bg hbg5 hnb).trans hcur)
          have hT3 : (fun w' : World => w'.heap[gb]? = some (.cells #[.int .i64 ff, .slice sb.p sb.n sb.c] 31)) (w6.setCell ⟨bg, 2, none⟩ (.slice (some ⟨gn, 0, none⟩) (PK.length + 1) cn)) := by
            show (w6.setCell _ _).heap[gb]? = _
            rw [heap_setCell_other _ _ _ _ (by show gb ≠ bg; intro e; have h1 := HG5.out.gb.gm; rw [← e, HSM.out.1 gb (by omega) (by rw [HOG.out]; simp), HOG.out] at h1; cases h1)]; exact hT2
          refine wpOp_of_wp rfl rfl (hideK ?_)
          intro K' hK'
          go_simp
          rw [hK'.out]
          refine ⟨hT3, ?_⟩
          try dsimp only
          try simp only [Act.put, List.getElem_toArray, List.getElem_cons_succ, List.getElem_cons_zero, List.setIfInBounds_toArray, List.set_cons_zero, List.set_cons_succ]
          refine wpAnyH_done (by kernel_rfl) ?_ _
          have Z : Hid (∃ own', GD SR (w6.setCell ⟨bg, 2, none⟩ (.slice (some ⟨gn, 0, none⟩) (PK.length + 1) cn)) own' B0 bg bs bw t wid (m + 1) D sl5 st5 ⟨some ⟨gn, 0, none⟩, PK.length + 1, cn⟩ L' T' (PK ++ [(⟨ff, sb⟩ : Pk)]) ∧ Same w5 own3 own' ∧ Fr own3 (fun t => t = .gm ∨ t = .ld) w5 (w6.setCell ⟨bg, 2, none⟩ (.slice (some ⟨gn, 0, none⟩) (PK.length + 1) cn))) :=
            HG5.out.laid HR.out (Nat.le_refl _) (by omega) (below_drawn' (below_alloc w5.drew (.cells (flat clPk [(⟨ff, sb⟩ : Pk)]).toArray 31))) ⟨ff, sb⟩ HPK5.out ⟨some ⟨gn, 0, none⟩, PK.length + 1, cn⟩ o6 (by rw [← HVD.out]; exact g6) (by rw [← HVD.out]; exact t6)
          clear hT0 hT1 hT2 hT3 o6 g6 t6 e6 cx fx R1 c2 hl1
          go_wp2
          go_ret
          obtain ⟨own4, z1, z2, z3⟩ := Z.out
          refine ⟨rfl, Nx.mk HB4.out HBL.out ⟨D, sl5, st5, _, L', T', _, z1⟩ (HSM.out.1.trans HSM.out.2.size z2) ?_⟩
          exact (HSM.out.2.mono (S' := notArg) fun t h => by rcases h with rfl | rfl | rfl <;> simp [notArg]).trans HSM.out.1 (z3.mono fun t h => by rcases h with rfl | rfl <;> simp [notArg])
      · have hb0' : (ef == 0) = false := by simpa using h0
        go_wp2
        go_ret
        exact ⟨rfl, Nx.mk HB4.out HBL.out ⟨D, sl5, st5, vd, L', T', PK, HG5.out⟩ HSM.out.1 (HSM.out.2.mono fun t h => by rcases h with rfl | rfl | rfl <;> simp [notArg])⟩
end Go.Proofs.YtpglbakcjihohaaGreat

/-! 'brings': a packet is delivered as the document says; what was handed in stays as it was. -/
namespace Go.Proofs.YtpglbakcjihohaaGreat
open Go.RowKit
set_option maxRecDepth 100000

theorem delE_fit (t : List Int) (n fr : Int) (l : List It) : fitsI (delE t n fr l) := by
  unfold fitsI delE
  repeat' split
  all_goals omega
theorem delD_di {t : List Int} {D : List Nd} {m : Nat} (h8 : t.length ≤ 8) (h : DI D m) (n fr : Int) (l : List It) (hok : AllOkI l) : DI (delD t D n fr l) m := by
  unfold delD
  split
  · rename_i h0
    cases hx : D[n.toNat]? with
    | none => exact h
    | some d =>
      have := h _ d hx
      refine set_di h ⟨this.1, this.2.1, this.2.2.1.dlv (fair_in (n := n) (fr := fr) h8 ?_ hok), this.2.2.2⟩
      unfold delE at h0
      split at h0
      · split at h0
        · assumption
        · omega
      · omega
  · exact h
theorem GD.chgS {SR : SRT} (R : PR SR) {w w' : World} {own own' : Ghost} {B0 bg bs bw : Nat} {t : List Int} {wid : Int} {m : Nat} {D : List Nd} {vl vt vd : Sl} {L T : List Sl} {PK : List Pk} (h : GD SR w own B0 bg bs bw t wid m D vl vt vd L T PK) (f : Fr own (fun t => t = .arg) w w') (s : Same w own own') : GD SR w' own' B0 bg bs bw t wid m D vl vt vd L T PK where
  gb := h.gb.chg f s (by simp) (by simp) (by simp) (by simp) (by simp) (by simp)
  st := R.chg h.st f s fun _ => by simp
  wd := by obtain ⟨xt, xn, C, hw⟩ := h.wd; exact ⟨xt, xn, C, hw.chg f s fun _ => by simp⟩
  di := h.di
  ll := h.ll
  lp := h.lp
theorem roomed_take (l : List It) : (roomed l 8).take l.length = l := by simp [roomed]
theorem Roomy.rows {w : World} {base : Nat} {p : Option Addr} {l : List It} (h : Roomy w base p l) : RowsAt clIt w p l := by
  obtain ⟨g, rfl, ho⟩ := h
  obtain ⟨p', c', e, _, _, hr⟩ := ho.form
  injection e with e1 e2 e3
  subst e1
  have := hr.take l.length
  rw [roomed_take] at this
  exact this
theorem Roomy.below {w w' : World} {base : Nat} {p : Option Addr} {l : List It} (h : Roomy w base p l) (hb : Below w.heap.size w w') : Roomy w' base p l := by
  obtain ⟨g, e, ho⟩ := h
  exact ⟨g, e, ho.below hb⟩
theorem Roomy.fr {own : Ghost} {S : Tag → Prop} {w w' : World} {base : Nat} {p : Option Addr} {l : List It} (h : Roomy w base p l) (f : Fr own S w w') (ht : ∀ g, p = some ⟨g, 0, none⟩ → own g = .arg) (hS : ¬ S .arg) : Roomy w' base p l := by
  obtain ⟨g, rfl, ho⟩ := h
  exact ⟨g, rfl, ho.fr f (t := .arg) (fun k hk => by cases hk; exact ht g rfl) (by simp) hS⟩
theorem rows_fr {own : Ghost} {S : Tag → Prop} {w w' : World} {p : Option Addr} {l : List It} (h : RowsAt clIt w p l) (f : Fr own S w w') (ht : l = [] ∨ ∀ b off, p = some ⟨b, off, none⟩ → own b = .arg ∨ own b = .ldI) (h1 : ¬ S .arg) (h2 : ¬ S .ldI) : RowsAt clIt w' p l := by
  rcases h with h | ⟨b, off, e, hb, hc⟩
  · exact .inl h
  · rcases ht with h | ht
    · exact .inl h
    · refine RowsAt.chg (.inr ⟨b, off, e, hb, hc⟩) f.size fun b' off' e' => ?_
      rw [e] at e'; cases e'
      rcases ht b off e with h | h
      · exact f.block b hb (by rw [h]; simp) (by rw [h]; exact h1)
      · exact f.block b hb (by rw [h]; simp) (by rw [h]; exact h2)
theorem RowsAt.lt {w : World} {p : Option Addr} {l : List It} (h : RowsAt clIt w p l) (hl : l ≠ []) (b off : Nat) (e : p = some ⟨b, off, none⟩) : b < w.heap.size := by
  rcases h with h | ⟨b', off', e', hb, _⟩
  · exact absurd h hl
  · rw [e] at e'; cases e'; exact hb
set_option maxHeartbeats 8000000 in
theorem brings_any (SR : SRT) (R : PR SR) (Q : PJ SR) (w : World) (own : Ghost) (B0 bg bs bw : Nat) (t : List Int) (wid : Int) (m : Nat) (D : List Nd) (vl vt vd : Sl) (L T : List Sl) (PK : List Pk) (g : GD SR w own B0 bg bs bw t wid m D vl vt vd L T PK) (hm : m < 100000000) (hfree : ∀ k, w.heap.size ≤ k → own k = .free) (n fr : Int) (l : List It) (p : Option Addr) (pn pc : Nat) (hn : fitsI n) (hfr : fitsI fr) (hlen : l.length = pn) (hrow : RowsAt clIt w p l) (hok : AllOkI l) (hsm : pn ≤ 100000000) (hob : l = [] ∨ ∀ b off, p = some ⟨b, off, none⟩ → own b = .arg ∨ own b = .ldI) :
    Calls Tryz.prog 31 #[.pointer (some ⟨bg, 0, none⟩), .int .i64 n, .agg #[.int .i64 fr, .slice p pn pc]] w fun e w' => e = .returned (.bool true) ∧ ∃ own', GD SR w' own' B0 bg bs bw t wid (m + 1) (delD t D n fr l) vl vt vd L T PK ∧ Same w own own' ∧ Fr own notArg w w' := by
  have HR : Hid (PR SR) := R
  have HQ : Hid (PJ SR) := Q
  have HG : Hid (GD SR w own B0 bg bs bw t wid m D vl vt vd L T PK) := g
  have hbg := lt_of_blk g.gb.game
  have HFR : Hid (∀ k, w.heap.size ≤ k → own k = .free) := hfree
  have HROW : Hid (RowsAt clIt w p l) := hrow
  have HOK : Hid (AllOkI l) := hok
  have HOB : Hid (l = [] ∨ ∀ b off, p = some ⟨b, off, none⟩ → own b = .arg ∨ own b = .ldI) := hob
  have HT8 : Hid (t.length ≤ 8) := by obtain ⟨xt, xn, C, W⟩ := g.wd; exact W.T.le
  clear R Q g hfree hrow hok hob
  go_enter Tryz.func31, Tryz.ntmps31
  go_upto_region 1 with fail
  obtain ⟨bx, hbx⟩ : ∃ bx, bx = w.heap.size := ⟨_, rfl⟩
  obtain ⟨w1, hw1⟩ : ∃ w1, w1 = w.alloc (.cells #[.int .i64 fr, .slice p pn pc] 31) := ⟨_, rfl⟩
  have HB1 : Hid (Below w.heap.size w w1) := by unfold Hid; rw [hw1]; exact below_alloc _ _
  have HBX : Hid (w1.heap[bx]? = some (.cells #[.int .i64 fr, .slice p pn pc] 31)) := by unfold Hid; rw [hw1, hbx]; exact heap_alloc_new _ _
  have HBXE : Hid (bx = w.heap.size) := hbx
  have hbxw : bx < w1.heap.size := lt_of_blk HBX.out
  have x0 : w1.cell? ⟨bx, 0, none⟩ = some (.int .i64 fr) := by rw [cell_of_row _ _ _ _ _ _ HBX.out]; rfl
  have x1 : w1.cell? ⟨bx, 1, none⟩ = some (.slice p pn pc) := by rw [cell_of_row _ _ _ _ _ _ HBX.out]; rfl
  rw [← hw1, ← hbx]
  clear hw1 hbx
  go_cut [7] (fun v7 wx => ∃ (gh : Nat) (gq : Nat), v7 = .pointer (some ⟨gh, 0, none⟩) ∧ wx.heap[gh]? = some (.cells #[.int .i64 fr, .slice (some ⟨gq, 0, none⟩) pn (pn + 8)] 31) ∧ w1.heap.size ≤ gh ∧ Below w1.heap.size w1 wx ∧ Roomy wx w1.heap.size (some ⟨gq, 0, none⟩) l ∧ w1.heap.size ≤ gq ∧ gq < wx.heap.size ∧ gq ≠ gh)
  case first =>
    have hT0 : (fun w' : World => w'.cell? ⟨bx, 0, none⟩ = some (.int .i64 fr) ∧ w'.cell? ⟨bx, 1, none⟩ = some (.slice p pn pc)) w1.drew := ⟨x0, x1⟩
    refine wp_region_held (S := fun w' : World => w'.cell? ⟨bx, 0, none⟩ = some (.int .i64 fr) ∧ w'.cell? ⟨bx, 1, none⟩ = some (.slice p pn pc)) mixed ?_
    refine wpAnyH_take (i := 0) (v := (.pointer (some ⟨bx, 0, none⟩))) rfl (by kernel_rfl) (by kernel_rfl) (by kernel_rfl) (fun _ _ _ h => h) (Or.inl ⟨by rfl, fun wx hx => by go_simp⟩) hT0 ?_
    try dsimp only
    try simp only [Act.put, List.getElem_toArray, List.getElem_cons_succ, List.getElem_cons_zero, List.setIfInBounds_toArray, List.set_cons_zero, List.set_cons_succ]
    refine wpAnyH_take (i := 1) (v := (.int .i64 fr)) rfl (by kernel_rfl) (by kernel_rfl) (by kernel_rfl) (fun _ _ _ h => h) (Or.inl ⟨by rfl, fun wx hx => by have hx1 := hx.1; go_simp⟩) hT0 ?_
    try dsimp only
    try simp only [Act.put, List.getElem_toArray, List.getElem_cons_succ, List.getElem_cons_zero, List.setIfInBounds_toArray, List.set_cons_zero, List.set_cons_succ]
    refine wpAnyH_take (i := 2) (v := (.pointer (some ⟨bx, 1, none⟩))) rfl (by kernel_rfl) (by kernel_rfl) (by kernel_rfl) (fun _ _ _ h => h) (Or.inl ⟨by rfl, fun wx hx => by go_simp⟩) hT0 ?_
    try dsimp only
    try simp only [Act.put, List.getElem_toArray, List.getElem_cons_succ, List.getElem_cons_zero, List.setIfInBounds_toArray, List.set_cons_zero, List.set_cons_succ]
    refine wpAnyH_take (i := 3) (v := (.slice p pn pc)) rfl (by kernel_rfl) (by kernel_rfl) (by kernel_rfl) (fun _ _ _ h => h) (Or.inl ⟨by rfl, fun wx hx => by have hx1 := hx.2; go_simp⟩) hT0 ?_
    try dsimp only
    try simp only [Act.put, List.getElem_toArray, List.getElem_cons_succ, List.getElem_cons_zero, List.setIfInBounds_toArray, List.set_cons_zero, List.set_cons_succ]
    refine wpAnyH_all (rs := [4, 6]) (by kernel_rfl) (by simp) ?_
    intro jj hjj
    simp only [List.mem_cons, List.not_mem_nil, or_false] at hjj
    rcases hjj with rfl | rfl
    · skip
      refine wpOp_of_wp rfl rfl ?_
      go_simp
      refine (roomyItems_any l p pn pc w1.drew hlen ((HROW.out.below HB1.out).below below_drew) (by omega)).mono ?_
      rintro e w5 ⟨qq, rfl, hry, hb5⟩
      replace hb5 : Below w1.heap.size w1 w5 := below_drawn' hb5
      replace hry : Roomy w5 w1.heap.size qq l := hry
      obtain ⟨gq, rfl, hoq⟩ := hry
      have hq := hoq.lt gq rfl
      have hT1 : (fun w' : World => w'.cell? ⟨bx, 0, none⟩ = some (.int .i64 fr) ∧ w'.cell? ⟨bx, 1, none⟩ = some (.slice p pn pc)) w5 := ⟨cell_keep (w := w1) hb5 x0, cell_keep (w := w1) hb5 x1⟩
      refine ⟨hT1, ?_⟩
      try dsimp only
      try simp only [Act.put, List.getElem_toArray, List.getElem_cons_succ, List.getElem_cons_zero, List.setIfInBounds_toArray, List.set_cons_zero, List.set_cons_succ]
      refine wpAnyH_take (i := 5) (v := (.agg #[.int .i64 fr, .slice (some ⟨gq, 0, none⟩) pn (pn + 8)])) rfl (by kernel_rfl) (by kernel_rfl) (by kernel_rfl) (fun _ _ _ h => h) (Or.inl ⟨by rfl, fun wx hx => by go_simp⟩) hT1 ?_
      try dsimp only
      try simp only [Act.put, List.getElem_toArray, List.getElem_cons_succ, List.getElem_cons_zero, List.setIfInBounds_toArray, List.set_cons_zero, List.set_cons_succ]
      refine wpAnyH_all (rs := [6]) (by kernel_rfl) (by simp) ?_
      intro jj hjj
      simp only [List.mem_cons, List.not_mem_nil, or_false] at hjj
      subst hjj
      refine wpOp_alloc_z rfl rfl _ rfl _ zero_pk ?_
      have hbal : Below w1.heap.size w1 (w5.alloc (.cells #[.int .i64 0, .slice none 0 0] 31)) := bnext hb5 (below_alloc _ _)
      have hT2 : (fun w' : World => w'.cell? ⟨bx, 0, none⟩ = some (.int .i64 fr) ∧ w'.cell? ⟨bx, 1, none⟩ = some (.slice p pn pc)) (w5.alloc (.cells #[.int .i64 0, .slice none 0 0] 31)) := ⟨cell_keep (w := w1) hbal x0, cell_keep (w := w1) hbal x1⟩
      refine ⟨hT2, ?_⟩
      try dsimp only
      try simp only [Act.put, List.getElem_toArray, List.getElem_cons_succ, List.getElem_cons_zero, List.setIfInBounds_toArray, List.set_cons_zero, List.set_cons_succ]
      refine wpAnyH_all (rs := [7]) (by kernel_rfl) (by simp) ?_
      intro jj hjj
      simp only [List.mem_cons, List.not_mem_nil, or_false] at hjj
      subst hjj
      have G5 := heap_alloc_new w5 (.cells #[.int .i64 0, .slice none 0 0] 31)
      refine wpOp_store_row rfl rfl _ _ _ rfl #[.int .i64 fr, .slice (some ⟨gq, 0, none⟩) pn (pn + 8)] rfl rfl G5 info_pk rfl (by simp [Value.oneCell']) ?_
      have hsb := hb5.size
      have hbst : Below w1.heap.size w1 ((w5.alloc (.cells #[.int .i64 0, .slice none 0 0] 31)).setRow w5.heap.size #[.int .i64 fr, .slice (some ⟨gq, 0, none⟩) pn (pn + 8)]) := below_setRow _ hbal hsb
      have hT3 : (fun w' : World => w'.cell? ⟨bx, 0, none⟩ = some (.int .i64 fr) ∧ w'.cell? ⟨bx, 1, none⟩ = some (.slice p pn pc)) ((w5.alloc (.cells #[.int .i64 0, .slice none 0 0] 31)).setRow w5.heap.size #[.int .i64 fr, .slice (some ⟨gq, 0, none⟩) pn (pn + 8)]) := ⟨cell_keep (w := w1) hbst x0, cell_keep (w := w1) hbst x1⟩
      refine ⟨hT3, ?_⟩
      try dsimp only
      try simp only [Act.put, List.getElem_toArray, List.getElem_cons_succ, List.getElem_cons_zero, List.setIfInBounds_toArray, List.set_cons_zero, List.set_cons_succ]
      refine wpAnyH_done (by kernel_rfl) ?_ _
      have GZ := setRow_blk (A := #[.int .i64 fr, .slice (some ⟨gq, 0, none⟩) pn (pn + 8)]) G5
      have RZ : Roomy ((w5.alloc (.cells #[.int .i64 0, .slice none 0 0] 31)).setRow w5.heap.size #[.int .i64 fr, .slice (some ⟨gq, 0, none⟩) pn (pn + 8)]) w1.heap.size (some ⟨gq, 0, none⟩) l := ⟨gq, rfl, (hoq.below (below_alloc _ _)).chg fun k hk => setRow_other _ _ _ _ (fun e => by have hk' : gq = k := Option.some.inj hk; omega)⟩
      have SZ : gq < ((w5.alloc (.cells #[.int .i64 0, .slice none 0 0] 31)).setRow w5.heap.size #[.int .i64 fr, .slice (some ⟨gq, 0, none⟩) pn (pn + 8)]).heap.size := by simp; omega
      clear hT0 hT1 hT2 hT3 hbal G5 hb5 hoq
      go_wp2_with fail
      go_meet
      exact ⟨w5.heap.size, gq, rfl, GZ, hsb, hbst, RZ, hq.1, SZ, by omega⟩
    · skip
      refine wpOp_alloc_z rfl rfl _ rfl _ zero_pk ?_
      have hbal : Below w1.heap.size w1 (w1.drew.alloc (.cells #[.int .i64 0, .slice none 0 0] 31)) := below_drawn' (below_alloc w1.drew _)
      have hT1 : (fun w' : World => w'.cell? ⟨bx, 0, none⟩ = some (.int .i64 fr) ∧ w'.cell? ⟨bx, 1, none⟩ = some (.slice p pn pc)) (w1.drew.alloc (.cells #[.int .i64 0, .slice none 0 0] 31)) := ⟨cell_keep (w := w1) hbal x0, cell_keep (w := w1) hbal x1⟩
      refine ⟨hT1, ?_⟩
      try dsimp only
      try simp only [Act.put, List.getElem_toArray, List.getElem_cons_succ, List.getElem_cons_zero, List.setIfInBounds_toArray, List.set_cons_zero, List.set_cons_succ]
      refine wpAnyH_all (rs := [4]) (by kernel_rfl) (by simp) ?_
      intro jj hjj
      simp only [List.mem_cons, List.not_mem_nil, or_false] at hjj
      subst hjj
      refine wpOp_of_wp rfl rfl ?_
      go_simp
      refine (roomyItems_any l p pn pc _ hlen ((HROW.out.below HB1.out).below hbal) (by omega)).mono ?_
      rintro e w5 ⟨qq, rfl, hry, hb5⟩
      have hbX : Below w1.heap.size w1 w5 := bnext hbal hb5
      obtain ⟨gq, rfl, hoq⟩ := hry
      have hq := hoq.lt gq rfl
      have hsz : (w1.drew.alloc (.cells #[.int .i64 0, .slice none 0 0] 31)).heap.size = w1.heap.size + 1 := by simp
      rw [hsz] at hq
      have hT2 : (fun w' : World => w'.cell? ⟨bx, 0, none⟩ = some (.int .i64 fr) ∧ w'.cell? ⟨bx, 1, none⟩ = some (.slice p pn pc)) w5 := ⟨cell_keep (w := w1) hbX x0, cell_keep (w := w1) hbX x1⟩
      refine ⟨hT2, ?_⟩
      try dsimp only
      try simp only [Act.put, List.getElem_toArray, List.getElem_cons_succ, List.getElem_cons_zero, List.setIfInBounds_toArray, List.set_cons_zero, List.set_cons_succ]
      refine wpAnyH_take (i := 5) (v := (.agg #[.int .i64 fr, .slice (some ⟨gq, 0, none⟩) pn (pn + 8)])) rfl (by kernel_rfl) (by kernel_rfl) (by kernel_rfl) (fun _ _ _ h => h) (Or.inl ⟨by rfl, fun wx hx => by go_simp⟩) hT2 ?_
      try dsimp only
      try simp only [Act.put, List.getElem_toArray, List.getElem_cons_succ, List.getElem_cons_zero, List.setIfInBounds_toArray, List.set_cons_zero, List.set_cons_succ]
      refine wpAnyH_all (rs := [7]) (by kernel_rfl) (by simp) ?_
      intro jj hjj
      simp only [List.mem_cons, List.not_mem_nil, or_false] at hjj
      subst hjj
      have G5 := keep hb5 (heap_alloc_new w1.drew (.cells #[.int .i64 0, .slice none 0 0] 31))
      refine wpOp_store_row rfl rfl _ _ _ rfl #[.int .i64 fr, .slice (some ⟨gq, 0, none⟩) pn (pn + 8)] rfl rfl G5 info_pk rfl (by simp [Value.oneCell']) ?_
      have hbst : Below w1.heap.size w1 (w5.setRow w1.heap.size #[.int .i64 fr, .slice (some ⟨gq, 0, none⟩) pn (pn + 8)]) := below_setRow _ hbX (Nat.le_refl _)
      have hT3 : (fun w' : World => w'.cell? ⟨bx, 0, none⟩ = some (.int .i64 fr) ∧ w'.cell? ⟨bx, 1, none⟩ = some (.slice p pn pc)) (w5.setRow w1.heap.size #[.int .i64 fr, .slice (some ⟨gq, 0, none⟩) pn (pn + 8)]) := ⟨cell_keep (w := w1) hbst x0, cell_keep (w := w1) hbst x1⟩
      refine ⟨hT3, ?_⟩
      try dsimp only
      try simp only [Act.put, List.getElem_toArray, List.getElem_cons_succ, List.getElem_cons_zero, List.setIfInBounds_toArray, List.set_cons_zero, List.set_cons_succ]
      refine wpAnyH_done (by kernel_rfl) ?_ _
      have GZ := setRow_blk (A := #[.int .i64 fr, .slice (some ⟨gq, 0, none⟩) pn (pn + 8)]) G5
      have RZ : Roomy (w5.setRow w1.heap.size #[.int .i64 fr, .slice (some ⟨gq, 0, none⟩) pn (pn + 8)]) w1.heap.size (some ⟨gq, 0, none⟩) l := ⟨gq, rfl, (hoq.mono (by rw [hsz]; omega)).chg fun k hk => setRow_other _ _ _ _ (fun e => by have hk' : gq = k := Option.some.inj hk; omega)⟩
      have SZ : gq < (w5.setRow w1.heap.size #[.int .i64 fr, .slice (some ⟨gq, 0, none⟩) pn (pn + 8)]).heap.size := by simp; omega
      clear hT0 hT1 hT2 hT3 hbal G5 hb5 hoq hbX
      go_wp2_with fail
      go_meet
      exact ⟨w1.heap.size, gq, rfl, GZ, Nat.le_refl _, hbst, RZ, by omega, SZ, by omega⟩
  case rest =>
    obtain ⟨gh, gq, rfl, gH, hgh, hb2, hry, hgq, hgqs, hqh⟩ := hcut
    rename World => w2
    have HB2 : Hid (Below w.heap.size w w2) := bnext HB1.out hb2
    have GH : Hid (w2.heap[gh]? = some (.cells #[.int .i64 fr, .slice (some ⟨gq, 0, none⟩) pn (pn + 8)] 31)) := gH
    have GX2 : Hid (w2.heap[bx]? = some (.cells #[.int .i64 fr, .slice p pn pc] 31)) := keep hb2 HBX.out
    have HRY : Hid (Roomy w2 w1.heap.size (some ⟨gq, 0, none⟩) l) := hry
    have hs1 := HB1.out.size
    have hs2 := hb2.size
    have hghs : gh < w2.heap.size := lt_of_blk gH
    have HRP : Hid (RowsAt clIt w2 p l) := HROW.out.below HB2.out
    obtain ⟨own2, hown2⟩ : ∃ own2 : Ghost, own2 = fun k => if k = gq ∨ k = gh ∨ k = bx then .arg else own k := ⟨_, rfl⟩
    have HOQ : Hid (own2 gq = .arg ∧ own2 gh = .arg ∧ own2 bx = .arg) := by unfold Hid; rw [hown2]; exact ⟨if_pos (.inl rfl), if_pos (.inr (.inl rfl)), if_pos (.inr (.inr rfl))⟩
    have HOW : Hid (∀ k, k < w.heap.size → own2 k = own k) := fun k hk => by
      rw [hown2]
      exact if_neg (by have := HBXE.out; omega)
    have HGA : Hid (GD SR w2 own2 B0 bg bs bw t wid m D vl vt vd L T PK) := (HG.out.below HR.out HB2.out).chg HR.out (Fr.refl _ _ _) fun k hk hf => by
      by_cases e : k < w.heap.size
      · exact HOW.out k e
      · exact absurd (HFR.out k (by omega)) hf
    have HOB2 : Hid (l = [] ∨ ∀ b off, p = some ⟨b, off, none⟩ → own2 b = .arg ∨ own2 b = .ldI) := by
      rcases HOB.out with h | h
      · exact .inl h
      · by_cases hl : l = []
        · exact .inl hl
        · exact .inr fun b off e => by rw [HOW.out b (HROW.out.lt hl b off e)]; exact h b off e
    have c0 : w2.cell? ⟨bg, 0, none⟩ = some (.pointer (some ⟨bs, 0, none⟩)) := by rw [cell_of_row _ _ _ _ _ _ HGA.out.gb.game]; rfl
    have c1 : w2.cell? ⟨bg, 1, none⟩ = some (.pointer (some ⟨bw, 0, none⟩)) := by rw [cell_of_row _ _ _ _ _ _ HGA.out.gb.game]; rfl
    have HOM : Hid (own2 bg = .gm) := HGA.out.gb.gm
    clear gH hb2 hry hown2 x0 x1
    go_upto_region 2 with fail
    have hT0 : (fun w' : World => w'.cell? ⟨bg, 0, none⟩ = some (.pointer (some ⟨bs, 0, none⟩)) ∧ w'.heap[gh]? = some (.cells #[.int .i64 fr, .slice (some ⟨gq, 0, none⟩) pn (pn + 8)] 31)) w2.drew := ⟨c0, GH.out⟩
    refine wp_region_held (S := fun w' : World => w'.cell? ⟨bg, 0, none⟩ = some (.pointer (some ⟨bs, 0, none⟩)) ∧ w'.heap[gh]? = some (.cells #[.int .i64 fr, .slice (some ⟨gq, 0, none⟩) pn (pn + 8)] 31)) mixed ?_
    refine wpAnyH_take (i := 0) (v := (.pointer (some ⟨bg, 0, none⟩))) rfl (by kernel_rfl) (by kernel_rfl) (by kernel_rfl) (fun _ _ _ h => h) (Or.inl ⟨by rfl, fun wx hx => by go_simp⟩) hT0 ?_
    try dsimp only
    try simp only [Act.put, List.getElem_toArray, List.getElem_cons_succ, List.getElem_cons_zero, List.setIfInBounds_toArray, List.set_cons_zero, List.set_cons_succ]
    refine wpAnyH_take (i := 1) (v := (.pointer (some ⟨bg, 0, none⟩))) rfl (by kernel_rfl) (by kernel_rfl) (by kernel_rfl) (fun _ _ _ h => h) (Or.inl ⟨by rfl, fun wx hx => by go_simp⟩) hT0 ?_
    try dsimp only
    try simp only [Act.put, List.getElem_toArray, List.getElem_cons_succ, List.getElem_cons_zero, List.setIfInBounds_toArray, List.set_cons_zero, List.set_cons_succ]
    refine wpAnyH_take (i := 2) (v := (.pointer (some ⟨bg, 0, none⟩))) rfl (by kernel_rfl) (by kernel_rfl) (by kernel_rfl) (fun _ _ _ h => h) (Or.inl ⟨by rfl, fun wx hx => by go_simp⟩) hT0 ?_
    try dsimp only
    try simp only [Act.put, List.getElem_toArray, List.getElem_cons_succ, List.getElem_cons_zero, List.setIfInBounds_toArray, List.set_cons_zero, List.set_cons_succ]
    refine wpAnyH_take (i := 3) (v := (.pointer (some ⟨bs, 0, none⟩))) rfl (by kernel_rfl) (by kernel_rfl) (by kernel_rfl) (fun _ _ _ h => h) (Or.inl ⟨by rfl, fun wx hx => by have hx1 := hx.1; go_simp⟩) hT0 ?_
    try dsimp only
    try simp only [Act.put, List.getElem_toArray, List.getElem_cons_succ, List.getElem_cons_zero, List.setIfInBounds_toArray, List.set_cons_zero, List.set_cons_succ]
    refine wpAnyH_take (i := 4) (v := (.int .i64 n)) rfl (by kernel_rfl) (by kernel_rfl) (by kernel_rfl) (fun _ _ _ h => h) (Or.inl ⟨by rfl, fun wx hx => by go_simp⟩) hT0 ?_
    try dsimp only
    try simp only [Act.put, List.getElem_toArray, List.getElem_cons_succ, List.getElem_cons_zero, List.setIfInBounds_toArray, List.set_cons_zero, List.set_cons_succ]
    refine wpAnyH_take (i := 5) (v := (.agg #[.int .i64 fr, .slice (some ⟨gq, 0, none⟩) pn (pn + 8)])) rfl (by kernel_rfl) (by kernel_rfl) (by kernel_rfl) (fun _ _ _ h => h) (yieldsIf_load_pk (by rfl) _ rfl _ rfl _ _ (fun wx hx => hx.2)) hT0 ?_
    try dsimp only
    try simp only [Act.put, List.getElem_toArray, List.getElem_cons_succ, List.getElem_cons_zero, List.setIfInBounds_toArray, List.set_cons_zero, List.set_cons_succ]
    refine wpAnyH_all (rs := [6]) (by kernel_rfl) (by simp) ?_
    intro jj hjj
    simp only [List.mem_cons, List.not_mem_nil, or_false] at hjj
    subst hjj
    refine wpOp_of_wp rfl rfl ?_
    go_simp
    refine (HQ.out.deliver w2.drew own2 B0 bs t wid D (HR.out.below HGA.out.st below_drew) (HGA.out.di.mono (by omega)) HGA.out.gb.b0 n fr l _ pn _ hn hfr hlen (HRY.out.rows.below below_drew) HOK.out (by omega) (fun b off e => by cases e; exact HOQ.out.1)).mono ?_
    rintro e w3 ⟨rfl, own3, hst3, hsm3, hfr3⟩
    replace hfr3 : Fr own2 isSt w2 w3 := fr_drew hfr3
    replace hsm3 : Same w2 own2 own3 := hsm3
    have na : ¬ isSt Tag.arg := not_st (by simp)
    have ni : ¬ isSt Tag.ldI := not_st (by simp)
    have gH3 : w3.heap[gh]? = some (.cells #[.int .i64 fr, .slice (some ⟨gq, 0, none⟩) pn (pn + 8)] 31) := by rw [hfr3.block gh hghs (by rw [HOQ.out.2.1]; simp) (by rw [HOQ.out.2.1]; exact na)]; exact GH.out
    have gX3 : w3.heap[bx]? = some (.cells #[.int .i64 fr, .slice p pn pc] 31) := by rw [hfr3.block bx (lt_of_blk GX2.out) (by rw [HOQ.out.2.2]; simp) (by rw [HOQ.out.2.2]; exact na)]; exact GX2.out
    have nb : own2 bg ≠ .free ∧ ¬ isSt (own2 bg) := by rw [HOM.out]; exact ⟨by simp, not_st (by simp)⟩
    have hT1 : (fun w' : World => w'.cell? ⟨bg, 0, none⟩ = some (.pointer (some ⟨bs, 0, none⟩)) ∧ w'.heap[gh]? = some (.cells #[.int .i64 fr, .slice (some ⟨gq, 0, none⟩) pn (pn + 8)] 31)) w3 := ⟨cell_fr hfr3 c0 nb.1 nb.2, gH3⟩
    refine ⟨hT1, ?_⟩
    try dsimp only
    try simp only [Act.put, List.getElem_toArray, List.getElem_cons_succ, List.getElem_cons_zero, List.setIfInBounds_toArray, List.set_cons_zero, List.set_cons_succ]
    refine wpAnyH_take (i := 7) (v := (.int .i64 (delE t n fr l))) rfl (by kernel_rfl) (by kernel_rfl) (by kernel_rfl) (fun _ _ _ h => h) (Or.inl ⟨by rfl, fun wx hx => by go_simp⟩) hT1 ?_
    try dsimp only
    try simp only [Act.put, List.getElem_toArray, List.getElem_cons_succ, List.getElem_cons_zero, List.setIfInBounds_toArray, List.set_cons_zero, List.set_cons_succ]
    refine wpAnyH_done (by kernel_rfl) ?_ _
    have HST : Hid (SR w3 own3 B0 bs t wid (delD t D n fr l) ∧ Same w2 own2 own3 ∧ Fr own2 isSt w2 w3) := ⟨hst3, hsm3, hfr3⟩
    have HO3 : Hid (own3 gq = .arg ∧ own3 gh = .arg ∧ own3 bx = .arg ∧ own3 bg = .gm) := ⟨by rw [hsm3 gq hgqs (by rw [HOQ.out.1]; simp)]; exact HOQ.out.1, by rw [hsm3 gh hghs (by rw [HOQ.out.2.1]; simp)]; exact HOQ.out.2.1, by rw [hsm3 bx (lt_of_blk GX2.out) (by rw [HOQ.out.2.2]; simp)]; exact HOQ.out.2.2, by rw [hsm3 bg (lt_of_blk HGA.out.gb.game) (by rw [HOM.out]; simp)]; exact HOM.out⟩
    have HRY3 : Hid (Roomy w3 w1.heap.size (some ⟨gq, 0, none⟩) l) := HRY.out.fr hfr3 (fun g e => by cases e; exact HOQ.out.1) na
    have HRP3 : Hid (RowsAt clIt w3 p l) := rows_fr HRP.out hfr3 HOB2.out na ni
    have HOB3 : Hid (l = [] ∨ ∀ b off, p = some ⟨b, off, none⟩ → own3 b = .arg ∨ own3 b = .ldI) := by
      rcases HOB2.out with h | h
      · exact .inl h
      · by_cases hl : l = []
        · exact .inl hl
        · exact .inr fun b off e => by
            have h1 := h b off e
            rw [hsm3 b (HRP.out.lt hl b off e) (by rcases h1 with h1 | h1 <;> rw [h1] <;> simp)]; exact h1
    have GH3 : Hid (w3.heap[gh]? = some (.cells #[.int .i64 fr, .slice (some ⟨gq, 0, none⟩) pn (pn + 8)] 31)) := gH3
    have GX3 : Hid (w3.heap[bx]? = some (.cells #[.int .i64 fr, .slice p pn pc] 31)) := gX3
    have d1 : w3.cell? ⟨bg, 1, none⟩ = some (.pointer (some ⟨bw, 0, none⟩)) := cell_fr hfr3 c1 nb.1 nb.2
    have hs3 := hfr3.size
    have HEF : Hid (fitsI (delE t n fr l)) := delE_fit t n fr l
    obtain ⟨er, her⟩ : ∃ er, delE t n fr l = er := ⟨_, rfl⟩
    have HER : Hid (delE t n fr l = er) := her
    rw [her] at HEF ⊢
    clear hT0 hT1 hst3 hsm3 hfr3 nb na ni her c0 c1 gH3 gX3 GH GX2 HRY HRP HOB2
    go_upto_region 3 with fail
    have hT0 : (fun w' : World => w'.cell? ⟨bg, 1, none⟩ = some (.pointer (some ⟨bw, 0, none⟩)) ∧ w'.heap[bx]? = some (.cells #[.int .i64 fr, .slice p pn pc] 31)) w3.drew := ⟨d1, GX3.out⟩
    refine wp_region_held (S := fun w' : World => w'.cell? ⟨bg, 1, none⟩ = some (.pointer (some ⟨bw, 0, none⟩)) ∧ w'.heap[bx]? = some (.cells #[.int .i64 fr, .slice p pn pc] 31)) mixed ?_
    refine wpAnyH_take (i := 0) (v := (.pointer (some ⟨bg, 0, none⟩))) rfl (by kernel_rfl) (by kernel_rfl) (by kernel_rfl) (fun _ _ _ h => h) (Or.inl ⟨by rfl, fun wx hx => by go_simp⟩) hT0 ?_
    try dsimp only
    try simp only [Act.put, List.getElem_toArray, List.getElem_cons_succ, List.getElem_cons_zero, List.setIfInBounds_toArray, List.set_cons_zero, List.set_cons_succ]
    refine wpAnyH_take (i := 1) (v := (.pointer (some ⟨bg, 0, none⟩))) rfl (by kernel_rfl) (by kernel_rfl) (by kernel_rfl) (fun _ _ _ h => h) (Or.inl ⟨by rfl, fun wx hx => by go_simp⟩) hT0 ?_
    try dsimp only
    try simp only [Act.put, List.getElem_toArray, List.getElem_cons_succ, List.getElem_cons_zero, List.setIfInBounds_toArray, List.set_cons_zero, List.set_cons_succ]
    refine wpAnyH_take (i := 2) (v := (.pointer (some ⟨bg, 1, none⟩))) rfl (by kernel_rfl) (by kernel_rfl) (by kernel_rfl) (fun _ _ _ h => h) (Or.inl ⟨by rfl, fun wx hx => by go_simp⟩) hT0 ?_
    try dsimp only
    try simp only [Act.put, List.getElem_toArray, List.getElem_cons_succ, List.getElem_cons_zero, List.setIfInBounds_toArray, List.set_cons_zero, List.set_cons_succ]
    refine wpAnyH_take (i := 3) (v := (.pointer (some ⟨bw, 0, none⟩))) rfl (by kernel_rfl) (by kernel_rfl) (by kernel_rfl) (fun _ _ _ h => h) (Or.inl ⟨by rfl, fun wx hx => by have hx1 := hx.1; go_simp⟩) hT0 ?_
    try dsimp only
    try simp only [Act.put, List.getElem_toArray, List.getElem_cons_succ, List.getElem_cons_zero, List.setIfInBounds_toArray, List.set_cons_zero, List.set_cons_succ]
    refine wpAnyH_take (i := 4) (v := (.int .i64 n)) rfl (by kernel_rfl) (by kernel_rfl) (by kernel_rfl) (fun _ _ _ h => h) (Or.inl ⟨by rfl, fun wx hx => by go_simp⟩) hT0 ?_
    try dsimp only
    try simp only [Act.put, List.getElem_toArray, List.getElem_cons_succ, List.getElem_cons_zero, List.setIfInBounds_toArray, List.set_cons_zero, List.set_cons_succ]
    refine wpAnyH_take (i := 5) (v := (.agg #[.int .i64 fr, .slice p pn pc])) rfl (by kernel_rfl) (by kernel_rfl) (by kernel_rfl) (fun _ _ _ h => h) (yieldsIf_load_pk (by rfl) _ rfl _ rfl _ _ (fun wx hx => hx.2)) hT0 ?_
    try dsimp only
    try simp only [Act.put, List.getElem_toArray, List.getElem_cons_succ, List.getElem_cons_zero, List.setIfInBounds_toArray, List.set_cons_zero, List.set_cons_succ]
    refine wpAnyH_all (rs := [6]) (by kernel_rfl) (by simp) ?_
    intro jj hjj
    simp only [List.mem_cons, List.not_mem_nil, or_false] at hjj
    subst hjj
    refine wpOp_of_wp rfl rfl ?_
    go_simp
    obtain ⟨xt, xn, C, W0⟩ := HGA.out.wd
    have W : WRep w3 own3 B0 bw t wid D xt xn C := W0.chg HST.out.2.2 HST.out.2.1 fun i => not_st (by simp)
    have hb0 : B0 ≤ w3.heap.size := Nat.le_trans HGA.out.gb.b0 HST.out.2.2.size
    refine (rDeliver_any w3.drew own3 B0 bw t wid D xt xn C (W.below below_drew) n fr l p pn pc hb0 hlen (HRP3.out.below below_drew) HOK.out (by omega) (fun hl b off e i => by rcases HOB3.out with h | h; (exact absurd h hl); rcases h b off e with h | h <;> rw [h] <;> simp) (fun k d hk => (HGA.out.di k d hk).2.2.1)).mono ?_
    rintro e w4 ⟨rfl, own4, C4, hw4, hsm4, hfr4⟩
    replace hfr4 : Fr own3 isWd w3 w4 := fr_drew hfr4
    replace hsm4 : Same w3 own3 own4 := hsm4
    have na : ¬ isWd Tag.arg := not_wd (by simp)
    have ni : ¬ isWd Tag.ldI := not_wd (by simp)
    have gX4 : w4.heap[bx]? = some (.cells #[.int .i64 fr, .slice p pn pc] 31) := by rw [hfr4.block bx (lt_of_blk GX3.out) (by rw [HO3.out.2.2.1]; simp) (by rw [HO3.out.2.2.1]; exact na)]; exact GX3.out
    have gH4 : w4.heap[gh]? = some (.cells #[.int .i64 fr, .slice (some ⟨gq, 0, none⟩) pn (pn + 8)] 31) := by rw [hfr4.block gh (lt_of_blk GH3.out) (by rw [HO3.out.2.1]; simp) (by rw [HO3.out.2.1]; exact na)]; exact GH3.out
    have nb : own3 bg ≠ .free ∧ ¬ isWd (own3 bg) := by rw [HO3.out.2.2.2]; exact ⟨by simp, not_wd (by simp)⟩
    have hT1 : (fun w' : World => w'.cell? ⟨bg, 1, none⟩ = some (.pointer (some ⟨bw, 0, none⟩)) ∧ w'.heap[bx]? = some (.cells #[.int .i64 fr, .slice p pn pc] 31)) w4 := ⟨cell_fr hfr4 d1 nb.1 nb.2, gX4⟩
    rw [HER.out]
    refine ⟨hT1, ?_⟩
    try dsimp only
    try simp only [Act.put, List.getElem_toArray, List.getElem_cons_succ, List.getElem_cons_zero, List.setIfInBounds_toArray, List.set_cons_zero, List.set_cons_succ]
    refine wpAnyH_take (i := 7) (v := (.int .i64 er)) rfl (by kernel_rfl) (by kernel_rfl) (by kernel_rfl) (fun _ _ _ h => h) (Or.inl ⟨by rfl, fun wx hx => by go_simp⟩) hT1 ?_
    try dsimp only
    try simp only [Act.put, List.getElem_toArray, List.getElem_cons_succ, List.getElem_cons_zero, List.setIfInBounds_toArray, List.set_cons_zero, List.set_cons_succ]
    refine wpAnyH_done (by kernel_rfl) ?_ _
    have HG4 : Hid (GD SR w4 own4 B0 bg bs bw t wid (m + 1) (delD t D n fr l) vl vt vd L T PK) := HGA.out.both HR.out HST.out.1 HST.out.2.1 HST.out.2.2 hw4 hsm4 hfr4 ((delD_di HT8.out HGA.out.di n fr l HOK.out).mono (by omega)) (by omega)
    have HSF : Hid (Same w2 own2 own4 ∧ Fr own2 notArg w2 w4) := ⟨HST.out.2.1.trans HST.out.2.2.size hsm4, HST.out.2.2.stwd HST.out.2.1 hfr4⟩
    have HO4 : Hid (own4 gq = .arg) := by unfold Hid; rw [hsm4 gq (by omega) (by rw [HO3.out.1]; simp)]; exact HO3.out.1
    have HRY4 : Hid (Roomy w4 w1.heap.size (some ⟨gq, 0, none⟩) l) := HRY3.out.fr hfr4 (fun g e => by cases e; exact HO3.out.1) na
    have HRP4 : Hid (RowsAt clIt w4 p l) := rows_fr HRP3.out hfr4 HOB3.out na ni
    have h0 : w4.cell? ⟨gh, 1, none⟩ = some (.slice (some ⟨gq, 0, none⟩) pn (pn + 8)) := by rw [cell_of_row _ _ _ _ _ _ gH4]; rfl
    have p0 : w4.cell? ⟨bx, 1, none⟩ = some (.slice p pn pc) := by rw [cell_of_row _ _ _ _ _ _ gX4]; rfl
    have hs4 := hfr4.size
    have hbx4 : bx < w4.heap.size := lt_of_blk gX4
    have hgh4 : gh < w4.heap.size := lt_of_blk gH4
    clear hT0 hT1 hw4 hsm4 hfr4 nb na ni W W0 d1 gX4 gH4 GH3 GX3 HRY3 HRP3 HOB3 HGA HST hb0
    go_wp2_with (first | (go_at_call 62; refine (untouchedItems_any l HOK.out _ _ pn _ _ _ hlen HRY4.out HRP4.out (by omega)).mono ?_; rintro e w5 ⟨rfl, hb5⟩; have HG5 : Hid (GD SR w5 own4 B0 bg bs bw t wid (m + 1) (delD t D n fr l) vl vt vd L T PK) := HG4.out.below HR.out hb5; have HB5 : Hid (Below w4.heap.size w4 w5) := hb5; have h1 : w5.cell? ⟨gh, 1, none⟩ = some (.slice (some ⟨gq, 0, none⟩) pn (pn + 8)) := cell_keep hb5 h0; have HRY5 : Hid (Roomy w5 w1.heap.size (some ⟨gq, 0, none⟩) l) := HRY4.out.below hb5; clear hb5 h0 p0) | (go_at_call 63; obtain ⟨gq', eq', hoq⟩ := HRY5.out; cases eq'; refine (blotItems_any (roomed l 8) gq pn (pn + 8) w1.heap.size w5 (by rw [roomed_len l 8 (by omega)]; omega) (by rw [roomed_len l 8 (by omega)]; rw [hlen] at hoq ⊢; exact hoq) (by omega)).mono ?_; rintro e w6 ⟨rfl, hg6⟩; have HG6 : Hid (w5.grownBy w6 (some gq)) := hg6; clear hg6 hoq h1) | (go_at_call 19; refine (num_any _ _ HEF.out).mono ?_; rintro e wA ⟨rfl, hwA⟩; have hwA := hwA.symm; subst hwA))
    go_ret
    rename World => w6
    refine ⟨rfl, own4, HG5.out.chgS HR.out (Fr.of_grown HG6.out fun k hk => by cases hk; exact .inr HO4.out) (Same.refl _ _), fun k hk hf => ?_, ?_⟩
    · have e := HOW.out k hk
      rw [HSF.out.1 k (by omega) (by rw [e]; exact hf), e]
    · have f1 := HB2.out
      have f2 := HSF.out.2
      have f3 := HB5.out
      have f4 := HG6.out
      refine ⟨f4.os.trans (f3.os.trans (f2.os.trans f1.os)), f4.tape.trans (f3.tape.trans (f2.tape.trans f1.tape)), f4.output.trans (f3.output.trans (f2.output.trans f1.output)), Nat.le_trans f1.size (Nat.le_trans f2.size (Nat.le_trans f3.size f4.size)), fun k hk hf hn => ?_⟩
      have ea : own k = .arg := Classical.not_not.1 hn
      have e := HOW.out k hk
      have hk2 := Nat.lt_of_lt_of_le hk f1.size
      have hk4 := Nat.lt_of_lt_of_le hk2 f2.size
      rw [f4.block k (Nat.lt_of_lt_of_le hk4 f3.size) (fun h => by have := Option.some.inj h; omega), f3.block k hk4, f2.block k hk2 (by rw [e]; exact hf) (by rw [e, ea]; simp [notArg])]
      exact f1.block k hk
end Go.Proofs.YtpglbakcjihohaaGreat

/-! 'end': at the end all is looked at. -/
namespace Go.Proofs.YtpglbakcjihohaaGreat
open Go.RowKit
set_option maxRecDepth 100000

theorem Nx.refl {SR : SRT} {B0 bg bs bw : Nat} {t : List Int} {wid : Int} {m : Nat} {w : World} {own : Ghost} (g : GX SR B0 bg bs bw t wid m w own) : Nx SR B0 bg bs bw t wid m w own w := ⟨own, g, Same.refl _ _, Fr.refl _ _ _⟩
theorem Nx.trans {SR : SRT} {B0 bg bs bw : Nat} {t : List Int} {wid : Int} {m : Nat} {w w1 w2 : World} {own own1 : Ghost} (s : Same w own own1) (f : Fr own notArg w w1) (h : Nx SR B0 bg bs bw t wid m w1 own1 w2) : Nx SR B0 bg bs bw t wid m w own w2 := by
  obtain ⟨own2, h1, h2, h3⟩ := h
  exact ⟨own2, h1, s.trans f.size h2, f.trans s h3⟩
theorem GX.mono {SR : SRT} {B0 bg bs bw : Nat} {t : List Int} {wid : Int} {m m' : Nat} {w : World} {own : Ghost} (h : GX SR B0 bg bs bw t wid m w own) (hm : m ≤ m') : GX SR B0 bg bs bw t wid m' w own := by
  obtain ⟨D, vl, vt, vd, L, T, PK, g⟩ := h
  exact ⟨D, vl, vt, vd, L, T, PK, g.mono hm⟩
/-- The book reads as it was written. -/
theorem reads_game (SR : SRT) (R : PR SR) (w : World) (own : Ghost) (B0 bg bs bw : Nat) (t : List Int) (wid : Int) (m : Nat) (hx : GX SR B0 bg bs bw t wid m w own) (hm : m ≤ 100000000) :
    Calls Tryz.prog 11 #[.pointer (some ⟨bg, 3, none⟩)] w fun e w' => e = .returned (.bool true) ∧ Nx SR B0 bg bs bw t wid m w own w' := by
  obtain ⟨D, vl, vt, vd, L, T, PK, g⟩ := hx
  refine (reads_any bg 3 w own B0 vl.val vt.val L T g.gb.bk (by rw [cell_of_row _ _ _ _ _ _ g.gb.game]; rfl) (by rw [cell_of_row _ _ _ _ _ _ g.gb.game]; rfl) (by have := g.ll; omega)).mono ?_
  rintro e w' ⟨rfl, hb⟩
  exact ⟨rfl, own, ⟨D, vl, vt, vd, L, T, PK, g.below R hb⟩, Same.refl _ _, Fr.of_below hb⟩
set_option maxHeartbeats 4000000 in
theorem end_any (SR : SRT) (R : PR SR) (w : World) (own : Ghost) (B0 bg bs bw : Nat) (t : List Int) (wid : Int) (m : Nat) (hx : GX SR B0 bg bs bw t wid m w own) (hm : m ≤ 90000000) :
    Calls Tryz.prog 12 #[.pointer (some ⟨bg, 0, none⟩)] w fun e w' => e = .returned (.bool true) ∧ Nx SR B0 bg bs bw t wid (m + 1000) w own w' := by
  have HR : Hid (PR SR) := R
  have HX : Hid (GX SR B0 bg bs bw t wid m w own) := hx
  clear R hx
  go_enter Tryz.func12, Tryz.ntmps12
  go_wp2
  go_loopw [3] (fun i wr => ∃ n : Nat, n ≤ 10 ∧ i = .int .i64 ((n : Int) - 1) ∧ Nx SR B0 bg bs bw t wid (m + n * 41) w own wr) (fun i _ => (9 - intOf i).toNat)
  case atStart => exact ⟨0, by omega, by rfl, Nx.refl (by simpa using HX.out)⟩
  case round =>
    clear HX
    obtain ⟨n, hn, rfl, own1, hg, hsm, hfr⟩ := hrel
    obtain ⟨ni, hni⟩ : ∃ ni, ni = (n : Int) - 1 := ⟨_, rfl⟩
    rw [← hni]
    have HG1 : Hid (GX SR B0 bg bs bw t wid (m + n * 41) wr own1) := hg
    have HS1 : Hid (Same w own own1 ∧ Fr own notArg w wr) := ⟨hsm, hfr⟩
    have HNI : Hid (ni = (n : Int) - 1) := hni
    clear hg hsm hfr
    by_cases hlt : n < 10
    · have hle : ni ≤ 8 := by omega
      have hfn : fitsI ni := ⟨by omega, by omega⟩
      have e1 : IntKind.i64.wrap (ni + 1) = ni + 1 := IntWalk.i64_in _ ⟨by omega, by omega⟩
      clear hni
      go_wp2_with (go_at_call 21; refine (asks_any SR HR.out wr own1 B0 bg bs bw t wid (m + n * 41) HG1.out (by omega) 1 ni 0 0 0 0 ByteArray.empty none 0 0 hfn ⟨by decide, by decide⟩ ⟨by decide, by decide⟩).mono ?_; rintro e w2 ⟨rfl, own2, hg2, hsm2, hfr2⟩; have HG2 : Hid (GX SR B0 bg bs bw t wid (m + n * 41 + 1) w2 own2) := hg2; have HS2 : Hid (Same w own own2 ∧ Fr own notArg w w2) := ⟨HS1.out.1.trans HS1.out.2.size hsm2, HS1.out.2.trans HS1.out.1 hfr2⟩; clear hg2 hsm2 hfr2 HG1 HS1)
      go_loopw [5] (fun i wx => ∃ k : Nat, k ≤ 20 ∧ i = .int .i64 k ∧ Nx SR B0 bg bs bw t wid (m + n * 41 + 1 + 2 * k) w own wx) (fun i _ => 20 - (intOf i).toNat)
      case atStart => exact ⟨0, by omega, rfl, own2, by simpa using HG2.out, HS2.out.1, HS2.out.2⟩
      case round =>
        clear HG2 HS2
        obtain ⟨k, hk, rfl, own3, hg3, hsm3, hfr3⟩ := hrel
        have HG3 : Hid (GX SR B0 bg bs bw t wid (m + n * 41 + 1 + 2 * k) wr own3) := hg3
        have HS3 : Hid (Same w own own3 ∧ Fr own notArg w wr) := ⟨hsm3, hfr3⟩
        clear hg3 hsm3 hfr3
        by_cases hlk : k < 20
        · have hfk : fitsI (k : Int) := ⟨by omega, by omega⟩
          go_wp2_with (first | (go_at_call 21; refine (asks_any SR HR.out wr own3 B0 bg bs bw t wid (m + n * 41 + 1 + 2 * k) HG3.out (by omega) 2 ni k k 0 0 ByteArray.empty none 0 0 hfn hfk hfk).mono ?_; rintro e w4 ⟨rfl, own4, hg4, hsm4, hfr4⟩; have HG4 : Hid (GX SR B0 bg bs bw t wid (m + n * 41 + 1 + 2 * k + 1) w4 own4) := hg4; have HS4 : Hid (Same w own own4 ∧ Fr own notArg w w4) := ⟨HS3.out.1.trans HS3.out.2.size hsm4, HS3.out.2.trans HS3.out.1 hfr4⟩; clear hg4 hsm4 hfr4 HG3 HS3) | (go_at_call 21; refine (asks_any SR HR.out w4 own4 B0 bg bs bw t wid (m + n * 41 + 1 + 2 * k + 1) HG4.out (by omega) 2 ni 0 k 0 0 ByteArray.empty none 0 0 hfn ⟨by decide, by decide⟩ hfk).mono ?_; rintro e w5 ⟨rfl, own5, hg5, hsm5, hfr5⟩; have HG5 : Hid (GX SR B0 bg bs bw t wid (m + n * 41 + 1 + 2 * k + 1 + 1) w5 own5) := hg5; have HS5 : Hid (Same w own own5 ∧ Fr own notArg w w5) := ⟨HS4.out.1.trans HS4.out.2.size hsm5, HS4.out.2.trans HS4.out.1 hfr5⟩; clear hg5 hsm5 hfr5))
          go_roundw
          case rel => exact ⟨k + 1, by omega, by go_num, own5, HG5.out.mono (by omega), HS5.out⟩
          case measure => simp [intOf]; omega
        · obtain rfl : k = 20 := by omega
          go_wp2
          go_roundw
          case rel => exact ⟨n + 1, by omega, by have := HNI.out; go_num, own3, HG3.out.mono (by omega), HS3.out⟩
          case measure => have := HNI.out; simp [intOf]; omega
    · have hge : 8 < ni := by omega
      clear hni
      go_wp2_with (go_at_call 11; refine (reads_game SR HR.out wr own1 B0 bg bs bw t wid (m + n * 41) HG1.out (by omega)).mono ?_; rintro e w2 ⟨rfl, own2, hg2, hsm2, hfr2⟩; have Z : Hid (Nx SR B0 bg bs bw t wid (m + 1000) w own w2) := Nx.trans HS1.out.1 HS1.out.2 ⟨own2, hg2.mono (by omega), hsm2, hfr2⟩; clear hg2 hsm2 hfr2)
      go_ret
      exact ⟨rfl, Z.out⟩
end Go.Proofs.YtpglbakcjihohaaGreat
