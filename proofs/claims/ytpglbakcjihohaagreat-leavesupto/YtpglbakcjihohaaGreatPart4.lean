/-
  Own texts, laid together: The document's Sync and Crash, for every node. The document's Crash, for every node. The document's IsTree, IsWidth and Begin. The document's Begin: a store with no items, for every tree and width. 'ahead' and 'newer', for every two items. 'joined': the items with one more, for every list and item. Plain facts of sorted items: how many there can be, what is joined, laid in, found; what a leaf knows behind an event or an advance. 'fair': may a packet come to a node, for every packet.
-/
import Derived.Test.YtpglbakcjihohaaGreatRows
import Derived.Test.YtpglbakcjihohaaGreatPart3
set_option linter.unusedSimpArgs false
set_option linter.unusedVariables false
set_option linter.deprecated false
/-! The document's Sync and Crash, for every node. -/
namespace Go.Proofs.YtpglbakcjihohaaGreat
open Go.RowKit
set_option maxRecDepth 100000

theorem sync_part22 {w : World} {B0 gn n cn : Nat} {C : List NdC} (h : Own clNd w B0 98 (.slice (some ⟨gn, 0, none⟩) n cn) C) (k : Nat) (c : NdC) (hc : C[k]? = some c) (M : Array Value) (l' : LfC) (hM : IsLfC M l') :
    ∃ cur, w.heap[gn]? = some (.cells cur 98) ∧ k * 46 + 22 + 22 ≤ cur.size ∧ Own clNd (w.setRow gn (lay cur (k * 46 + 22) M.toList)) B0 98 (.slice (some ⟨gn, 0, none⟩) n cn) (C.set k { c with kept := l' }) := by
  have hl : M.toList.length = 22 := by simpa using hM.size
  have hin : ∀ d, d < M.toList.length → (clNd.cells ({ c with kept := l' } : NdC))[22 + d]? = M.toList[d]? := fun d hd => by
    show (NdC.cells _)[22 + d]? = _
    rw [NdC.get_kept _ d (by omega), show M.toList = l'.cells from hM]
  have hout : ∀ d, d < 22 ∨ 22 + M.toList.length ≤ d → (clNd.cells ({ c with kept := l' } : NdC))[d]? = (clNd.cells c)[d]? := fun d hd => by
    rw [hl] at hd
    show (NdC.cells _)[d]? = (NdC.cells _)[d]?
    rcases hd with hd | hd
    · rw [NdC.get_live _ d hd, NdC.get_live _ d hd]
    · simp only [NdC.cells]
      rw [List.getElem?_append_right (by simp [LfC.len]; omega), List.getElem?_append_right (by simp [LfC.len]; omega)]
      simp [LfC.len]
  obtain ⟨cur, h1, h2, h3⟩ := h.part_set k c { c with kept := l' } hc 22 M.toList (by rw [hl]; decide) hin hout
  exact ⟨cur, h1, by rw [hl] at h2; exact h2, h3⟩
theorem sync_part0 {w : World} {B0 gn n cn : Nat} {C : List NdC} (h : Own clNd w B0 98 (.slice (some ⟨gn, 0, none⟩) n cn) C) (k : Nat) (c : NdC) (hc : C[k]? = some c) (M : Array Value) (l' : LfC) (hM : IsLfC M l') :
    ∃ cur, w.heap[gn]? = some (.cells cur 98) ∧ k * 46 + 22 ≤ cur.size ∧ Own clNd (w.setRow gn (lay cur (k * 46) M.toList)) B0 98 (.slice (some ⟨gn, 0, none⟩) n cn) (C.set k { c with live := l' }) := by
  have hl : M.toList.length = 22 := by simpa using hM.size
  have hin : ∀ d, d < M.toList.length → (clNd.cells ({ c with live := l' } : NdC))[0 + d]? = M.toList[d]? := fun d hd => by
    show (NdC.cells _)[0 + d]? = _
    rw [Nat.zero_add, NdC.get_live _ d (by omega), show M.toList = l'.cells from hM]
  have hout : ∀ d, d < 0 ∨ 0 + M.toList.length ≤ d → (clNd.cells ({ c with live := l' } : NdC))[d]? = (clNd.cells c)[d]? := fun d hd => by
    rw [hl] at hd
    show (NdC.cells _)[d]? = (NdC.cells _)[d]?
    simp only [NdC.cells, List.append_assoc]
    rw [List.getElem?_append_right (l₁ := l'.cells) (by have := LfC.len l'; omega), List.getElem?_append_right (l₁ := c.live.cells) (by have := LfC.len c.live; omega), LfC.len, LfC.len]
  obtain ⟨cur, h1, h2, h3⟩ := h.part_set k c { c with live := l' } hc 0 M.toList (by rw [hl]; decide) hin hout
  exact ⟨cur, h1, by rw [hl] at h2; exact h2, h3⟩
theorem NdC.set_vs (c : NdC) (s : Sl) : ({ c with vs := s } : NdC).cells = c.cells.set 45 s.val := by
  simp only [NdC.cells]
  rw [List.set_append_right _ _ (by simp [LfC.len])]
  simp [LfC.len]
theorem NdC.set_vi (c : NdC) (s : Sl) : ({ c with vi := s } : NdC).cells = c.cells.set 44 s.val := by
  simp only [NdC.cells]
  rw [List.set_append_right _ _ (by simp [LfC.len])]
  simp [LfC.len]
/-- Two lists of node k are new, and only the row of nodes was written. -/
theorem renew {w w8 : World} {own : Ghost} {B0 bw : Nat} {t : List Int} {wid : Int} {D : List Nd} {vt : Sl} {gn cn : Nat} {C : List NdC} (h : WRep w own B0 bw t wid D vt ⟨some ⟨gn, 0, none⟩, t.length, cn⟩ C) (k i1 i2 : Nat) (v1 v2 : Value) (b1 : ∀ j, v1.ownBlock = some j → w.heap.size ≤ j) (b2' : ∀ j, v2.ownBlock = some j → w.heap.size ≤ j) (hne : ∀ j, v1.ownBlock = some j → v2.ownBlock ≠ some j)
    (g : w.grownBy w8 (some gn)) :
    ∃ own' : Ghost, Same w own own' ∧ Fr own (ofNode k) w w8 ∧ TgV own' v1 (.wd i1) ∧ TgV own' v2 (.wd i2) := by
  have tgn : own gn = .wd 2 := h.tn gn rfl
  have f : Fr own (ofNode k) w w8 := Fr.of_grown g fun j hj => by cases hj; exact .inr (by rw [tgn]; exact .inl rfl)
  refine ⟨fun j => if v1.ownBlock = some j then .wd i1 else if v2.ownBlock = some j then .wd i2 else own j, fun j hj hf => ?_, f, fun j hj => if_pos hj, fun j hj => ?_⟩
  · show (if v1.ownBlock = some j then _ else _) = _
    rw [if_neg (fun e => by have := b1 j e; omega), if_neg (fun e => by have := b2' j e; omega)]
  · show (if v1.ownBlock = some j then _ else _) = _
    rw [if_neg (fun e => hne j e hj), if_pos hj]

theorem sync_done {w w5 w6 w7 : World} {own : Ghost} {B0 bw : Nat} {t : List Int} {wid : Int} {D : List Nd} {vt : Sl} {gn cn N : Nat} {C : List NdC} (hN : t.length = N) (h : WRep w own B0 bw t wid D vt ⟨some ⟨gn, 0, none⟩, t.length, cn⟩ C) (hB0 : B0 ≤ w.heap.size) (k : Nat) (c : NdC) (d : Nd) (hc : C[k]? = some c) (hd : D[k]? = some d)
    (s s7 : Sl) (hb5 : Below w.heap.size w w5) (hown : Own clEv w5 w.heap.size 100 s.val d.lev) (X : Array Value) (e6 : w6 = w5.setRow gn X)
    (hn6 : Own clNd w6 B0 98 (.slice (some ⟨gn, 0, none⟩) N cn) (C.set k { c with kept := { c.live with ve := s } })) (hb7 : Below w6.heap.size w6 w7) (hown7 : Own clIt w7 w6.heap.size 114 s7.val d.items) :
    ∃ own' C', WRep (w7.setCell ⟨gn, k * 46 + 45, none⟩ s7.val) own' B0 bw t wid (D.set k { d with kev := d.lev, kcl := d.lcl, kmk := d.lmk, saved := d.items }) vt ⟨some ⟨gn, 0, none⟩, t.length, cn⟩ C' ∧ Same w own own' ∧ Fr own isWd w (w7.setCell ⟨gn, k * 46 + 45, none⟩ s7.val) := by
  subst hN
  have rep := h.rep k c d hc hd
  have ok := h.ok k d hd
  have tgn : own gn = .wd 2 := h.tn gn rfl
  have hgn : gn < w.heap.size := (h.nodes.lt gn rfl).2
  have hkC : k < C.length := (List.getElem?_eq_some_iff.1 hc).1
  have s6 : w6.heap.size = w5.heap.size := by rw [e6]; simp
  have hs5 := hb5.size
  have hs7 := hb7.size
  have blk : ∀ j, j < w6.heap.size → j ≠ gn → (w7.setCell ⟨gn, k * 46 + 45, none⟩ s7.val).heap[j]? = w5.heap[j]? := fun j hj hne => by
    rw [heap_setCell_other _ _ _ _ (by show j ≠ gn; exact hne), hb7.block j hj, e6, setRow_other _ _ _ _ hne]
  have g : w.grownBy (w7.setCell ⟨gn, k * 46 + 45, none⟩ s7.val) (some gn) := by
    refine ⟨?_, ?_, ?_, by simp; omega, fun j hj hne => ?_⟩
    · exact hb7.os.trans (by rw [e6]; exact hb5.os)
    · exact hb7.tape.trans (by rw [e6]; exact hb5.tape)
    · exact hb7.output.trans (by rw [e6]; exact hb5.output)
    · rw [blk j (by omega) (fun e => hne (by rw [e]))]; exact hb5.block j hj
  have far : ∀ (v : Value) (i : Nat) {β : Type} {C : Cl β} {e : TypeId} {l : List β}, i ≠ 2 → TgV own v (.wd i) → Own C w B0 e v l → Own C (w7.setCell ⟨gn, k * 46 + 45, none⟩ s7.val) B0 e v l := fun v i _ _ _ _ hi ht ho => ho.chg fun j hj => g.block j (ho.lt j hj).2 fun e => by
    have := ht j hj
    rw [Option.some.inj e, tgn] at this
    simp at this
    omega
  obtain ⟨own', same, f, t1, t2⟩ := renew h k (4 * k + 4) (4 * k + 6) s.val s7.val (fun j hj => (hown.lt j hj).1) (fun j hj => by have := (hown7.lt j hj).1; omega) (fun j h1 h2 => by have := (hown.lt j h1).2; have := (hown7.lt j h2).1; omega) g
  have hx : (C.set k { c with kept := { c.live with ve := s } })[k]? = some { c with kept := { c.live with ve := s } } := by rw [List.getElem?_set_self hkC]
  have hn8 := (hn6.below hb7).cell_set k _ { c with kept := { c.live with ve := s }, vs := s7 } hx 45 s7.val (by decide) (NdC.set_vs { c with kept := { c.live with ve := s } } s7)
  rw [List.set_set] at hn8
  refine ⟨own', _, h.upd k _ _ f same hn8 ⟨rep.lcl, rep.lmk, rep.lcl, rep.lmk, far _ _ (by omega) rep.tl rep.lev, ?_, far _ _ (by omega) rep.ti rep.items, ?_, rep.tl.own same rep.lev (by simp), t1, rep.ti.own same rep.items (by simp), t2⟩ ⟨ok.lev, ok.lev, ok.lmk, ok.lmk, ok.items, ok.items, ok.li, ok.li⟩, same, f.mono fun t ht => ofNode_wd ht⟩
  · exact (hown.chg fun j hj => blk j (by have := (hown.lt j hj).2; omega) (by have := (hown.lt j hj).1; omega)).mono hB0
  · exact (hown7.chg fun j hj => heap_setCell_other _ _ _ _ (by show j ≠ gn; have := (hown7.lt j hj).1; omega)).mono (by omega)
/-- The error of a call that wants a node. -/
def ndE (t : List Int) (n : Int) : Int := if isNd t n = true then 0 else 2
/-- Sync: what a node is as it lives is stored. -/
def synD (t : List Int) (D : List Nd) (n : Int) : List Nd := if isNd t n = true then (match D[n.toNat]? with | some d => D.set n.toNat { d with kev := d.lev, kcl := d.lcl, kmk := d.lmk, saved := d.items } | none => D) else D
set_option maxHeartbeats 4000000 in
theorem rSync_any (w : World) (own : Ghost) (B0 bw : Nat) (t : List Int) (wid : Int) (D : List Nd) (vt vn : Sl) (C : List NdC) (h : WRep w own B0 bw t wid D vt vn C) (n : Int) (hB0 : B0 ≤ w.heap.size) (hl : ∀ (k : Nat) (d : Nd), D[k]? = some d → d.lev.length ≤ 1000000000 ∧ d.kev.length ≤ 1000000000) :
    Calls Tryz.prog 27 #[.pointer (some ⟨bw, 0, none⟩), .int .i64 n] w fun e w' => e = .returned (.int .i64 (ndE t n)) ∧ ∃ own' C', WRep w' own' B0 bw t wid (synD t D n) vt vn C' ∧ Same w own own' ∧ Fr own isWd w w' := by
  have HT : Hid (TreeAt w bw vt.p vt.c t) := h.treeAt
  by_cases h1 : isNd t n = true
  · obtain ⟨k, c, d, rfl, hk, hc, hd, rep, ok⟩ := h.at n h1
    have h8 := h.T.le
    obtain ⟨gn, cn, rfl⟩ := h.row
    have hnodes : Own clNd w B0 98 (.slice (some ⟨gn, 0, none⟩) t.length cn) C := h.nodes
    have hgnl := (hnodes.lt gn rfl).2
    have hbw := lt_of_blk h.main
    have c2' := h.rowcell
    have tgn : own gn = .wd 2 := h.tn gn rfl
    have tbw := h.tm
    have hbg : bw ≠ gn := fun e => by rw [e, tgn] at tbw; simp at tbw
    obtain ⟨N, hN⟩ : ∃ N, t.length = N := ⟨_, rfl⟩
    have c2 : w.cell? ⟨bw, 2, none⟩ = some (.slice (some ⟨gn, 0, none⟩) N cn) := by rw [← hN]; exact c2'
    rw [hN] at hk h8 hnodes
    have HE : Hid (ndE t k = 0) := by unfold Hid ndE; rw [if_pos h1]
    have HD : Hid (synD t D k = D.set k { d with kev := d.lev, kcl := d.lcl, kmk := d.lmk, saved := d.items }) := by unfold Hid synD; rw [if_pos h1]; simp [hd]
    have HW : Hid (WRep w own B0 bw t wid D vt ⟨some ⟨gn, 0, none⟩, t.length, cn⟩ C) := h
    have HN : Hid (Own clNd w B0 98 (.slice (some ⟨gn, 0, none⟩) N cn) C) := hnodes
    obtain ⟨LF, hLF⟩ : ∃ LF, LF = c.live := ⟨_, rfl⟩
    obtain ⟨EV, hEV⟩ : ∃ EV, EV = d.lev := ⟨_, rfl⟩
    obtain ⟨IL, hIL⟩ : ∃ IL, IL = d.items := ⟨_, rfl⟩
    obtain ⟨IS, hIS⟩ : ∃ IS, IS = c.vi := ⟨_, rfl⟩
    have HL : Hid (w.rangeAt gn (k * 46) LF.cells) := by unfold Hid; rw [hLF]; exact hnodes.live k c hc
    have HEV : Hid (EV.length = LF.ve.n ∧ RowsAt clEv w LF.ve.p EV ∧ LF.ve.n ≤ 1000000000) := by unfold Hid; rw [hLF, hEV]; exact ⟨rep.lev.sl.1, rep.lev.sl.2, by rw [← rep.lev.sl.1]; exact (hl k d hd).1⟩
    have HEQ : Hid (LF = c.live ∧ EV = d.lev ∧ IL = d.items ∧ IS = c.vi) := ⟨hLF, hEV, hIL, hIS⟩
    have HRP : Hid (NdRep w own B0 k c d ∧ d.Ok) := ⟨rep, ok⟩
    have HNN : Hid (t.length = N) := hN
    clear c2' h hnodes rep ok hl hLF hEV hIL hIS tgn tbw hN
    have k0 : (0 : Int) ≤ (k : Int) := by omega
    have k1 : (k : Int) < (N : Int) := by omega
    go_enter Tryz.func27, Tryz.ntmps27
    go_upto_region 4 with (go_at_call 54; refine (isNode_any _ _ _ _ t HT.out _).mono ?_; rintro e wA ⟨rfl, rfl⟩; rw [h1])
    rename World => w
    have hT0 : (fun w' : World => w'.cell? ⟨bw, 2, none⟩ = some (.slice (some ⟨gn, 0, none⟩) N cn)) w.drew := c2
    refine wp_region_held (S := fun w' : World => w'.cell? ⟨bw, 2, none⟩ = some (.slice (some ⟨gn, 0, none⟩) N cn)) mixed ?_
    refine wpAnyH_take (i := 0) (v := (.pointer (some ⟨bw, 0, none⟩))) rfl (by kernel_rfl) (by kernel_rfl) (by kernel_rfl) (fun _ _ _ h => h) (Or.inl ⟨by rfl, fun wx hx => by go_simp⟩) hT0 ?_
    try dsimp only
    try simp only [Act.put, List.getElem_toArray, List.getElem_cons_succ, List.getElem_cons_zero, List.setIfInBounds_toArray, List.set_cons_zero, List.set_cons_succ]
    refine wpAnyH_take (i := 1) (v := (.pointer (some ⟨bw, 0, none⟩))) rfl (by kernel_rfl) (by kernel_rfl) (by kernel_rfl) (fun _ _ _ h => h) (Or.inl ⟨by rfl, fun wx hx => by go_simp⟩) hT0 ?_
    try dsimp only
    try simp only [Act.put, List.getElem_toArray, List.getElem_cons_succ, List.getElem_cons_zero, List.setIfInBounds_toArray, List.set_cons_zero, List.set_cons_succ]
    refine wpAnyH_take (i := 2) (v := (.pointer (some ⟨bw, 2, none⟩))) rfl (by kernel_rfl) (by kernel_rfl) (by kernel_rfl) (fun _ _ _ h => h) (Or.inl ⟨by rfl, fun wx hx => by go_simp⟩) hT0 ?_
    try dsimp only
    try simp only [Act.put, List.getElem_toArray, List.getElem_cons_succ, List.getElem_cons_zero, List.setIfInBounds_toArray, List.set_cons_zero, List.set_cons_succ]
    refine wpAnyH_take (i := 3) (v := (.slice (some ⟨gn, 0, none⟩) N cn)) rfl (by kernel_rfl) (by kernel_rfl) (by kernel_rfl) (fun _ _ _ h => h) (Or.inl ⟨by rfl, fun wx hx => by have hx1 := hx; go_simp⟩) hT0 ?_
    try dsimp only
    try simp only [Act.put, List.getElem_toArray, List.getElem_cons_succ, List.getElem_cons_zero, List.setIfInBounds_toArray, List.set_cons_zero, List.set_cons_succ]
    refine wpAnyH_take (i := 4) (v := (.int .i64 k)) rfl (by kernel_rfl) (by kernel_rfl) (by kernel_rfl) (fun _ _ _ h => h) (Or.inl ⟨by rfl, fun wx hx => by go_simp⟩) hT0 ?_
    try dsimp only
    try simp only [Act.put, List.getElem_toArray, List.getElem_cons_succ, List.getElem_cons_zero, List.setIfInBounds_toArray, List.set_cons_zero, List.set_cons_succ]
    refine wpAnyH_take (i := 5) (v := (.pointer (some ⟨bw, 0, none⟩))) rfl (by kernel_rfl) (by kernel_rfl) (by kernel_rfl) (fun _ _ _ h => h) (Or.inl ⟨by rfl, fun wx hx => by go_simp⟩) hT0 ?_
    try dsimp only
    try simp only [Act.put, List.getElem_toArray, List.getElem_cons_succ, List.getElem_cons_zero, List.setIfInBounds_toArray, List.set_cons_zero, List.set_cons_succ]
    refine wpAnyH_take (i := 6) (v := (.pointer (some ⟨bw, 0, none⟩))) rfl (by kernel_rfl) (by kernel_rfl) (by kernel_rfl) (fun _ _ _ h => h) (Or.inl ⟨by rfl, fun wx hx => by go_simp⟩) hT0 ?_
    try dsimp only
    try simp only [Act.put, List.getElem_toArray, List.getElem_cons_succ, List.getElem_cons_zero, List.setIfInBounds_toArray, List.set_cons_zero, List.set_cons_succ]
    refine wpAnyH_take (i := 7) (v := (.pointer (some ⟨bw, 2, none⟩))) rfl (by kernel_rfl) (by kernel_rfl) (by kernel_rfl) (fun _ _ _ h => h) (Or.inl ⟨by rfl, fun wx hx => by go_simp⟩) hT0 ?_
    try dsimp only
    try simp only [Act.put, List.getElem_toArray, List.getElem_cons_succ, List.getElem_cons_zero, List.setIfInBounds_toArray, List.set_cons_zero, List.set_cons_succ]
    refine wpAnyH_take (i := 8) (v := (.slice (some ⟨gn, 0, none⟩) N cn)) rfl (by kernel_rfl) (by kernel_rfl) (by kernel_rfl) (fun _ _ _ h => h) (Or.inl ⟨by rfl, fun wx hx => by have hx1 := hx; go_simp⟩) hT0 ?_
    try dsimp only
    try simp only [Act.put, List.getElem_toArray, List.getElem_cons_succ, List.getElem_cons_zero, List.setIfInBounds_toArray, List.set_cons_zero, List.set_cons_succ]
    refine wpAnyH_take (i := 9) (v := (.int .i64 k)) rfl (by kernel_rfl) (by kernel_rfl) (by kernel_rfl) (fun _ _ _ h => h) (Or.inl ⟨by rfl, fun wx hx => by go_simp⟩) hT0 ?_
    try dsimp only
    try simp only [Act.put, List.getElem_toArray, List.getElem_cons_succ, List.getElem_cons_zero, List.setIfInBounds_toArray, List.set_cons_zero, List.set_cons_succ]
    refine wpAnyH_take (i := 10) (v := (.pointer (some ⟨gn, k * 46, none⟩))) rfl (by kernel_rfl) (by kernel_rfl) (by kernel_rfl) (fun _ _ _ h => h) (Or.inl ⟨by rfl, fun wx hx => by go_simp⟩) hT0 ?_
    try dsimp only
    try simp only [Act.put, List.getElem_toArray, List.getElem_cons_succ, List.getElem_cons_zero, List.setIfInBounds_toArray, List.set_cons_zero, List.set_cons_succ]
    refine wpAnyH_take (i := 11) (v := (.pointer (some ⟨gn, k * 46, none⟩))) rfl (by kernel_rfl) (by kernel_rfl) (by kernel_rfl) (fun _ _ _ h => h) (Or.inl ⟨by rfl, fun wx hx => by go_simp⟩) hT0 ?_
    try dsimp only
    try simp only [Act.put, List.getElem_toArray, List.getElem_cons_succ, List.getElem_cons_zero, List.setIfInBounds_toArray, List.set_cons_zero, List.set_cons_succ]
    refine wpAnyH_all (rs := [12]) (by kernel_rfl) (by simp) ?_
    intro j hj
    simp only [List.mem_cons, List.not_mem_nil, or_false] at hj
    subst hj
    refine wpOp_of_wp rfl rfl (wp_load_lf_mid _ rfl gn _ rfl LF (by exact HL.out) ?_)
    intro A hA
    refine ⟨hT0, ?_⟩
    try dsimp only
    try simp only [Act.put, List.getElem_toArray, List.getElem_cons_succ, List.getElem_cons_zero, List.setIfInBounds_toArray, List.set_cons_zero, List.set_cons_succ]
    refine wpAnyH_all (rs := [13]) (by kernel_rfl) (by simp) ?_
    intro j hj
    simp only [List.mem_cons, List.not_mem_nil, or_false] at hj
    subst hj
    refine wpOp_of_wp rfl rfl ?_
    go_simp
    refine (again_any LF A hA w.drew EV HEV.out.1 (by exact HEV.out.2.1) HEV.out.2.2).mono ?_
    rintro e w5 ⟨M, s, rfl, hM, hown, hb5⟩
    replace hb5 : Below w.heap.size w w5 := below_drawn' hb5
    replace hown : Own clEv w5 w.heap.size 100 s.val EV := hown
    have hT1 : (fun w' : World => w'.cell? ⟨bw, 2, none⟩ = some (.slice (some ⟨gn, 0, none⟩) N cn)) w5 := cell_keep hb5 c2
    refine ⟨hT1, ?_⟩
    try dsimp only
    try simp only [Act.put, List.getElem_toArray, List.getElem_cons_succ, List.getElem_cons_zero, List.setIfInBounds_toArray, List.set_cons_zero, List.set_cons_succ]
    refine wpAnyH_take (i := 14) (v := (.pointer (some ⟨gn, k * 46, none⟩))) rfl (by kernel_rfl) (by kernel_rfl) (by kernel_rfl) (fun _ _ _ h => h) (Or.inl ⟨by rfl, fun wx hx => by go_simp⟩) hT1 ?_
    try dsimp only
    try simp only [Act.put, List.getElem_toArray, List.getElem_cons_succ, List.getElem_cons_zero, List.setIfInBounds_toArray, List.set_cons_zero, List.set_cons_succ]
    refine wpAnyH_take (i := 15) (v := (.pointer (some ⟨gn, k * 46 + 22, none⟩))) rfl (by kernel_rfl) (by kernel_rfl) (by kernel_rfl) (fun _ _ _ h => h) (Or.inl ⟨by rfl, fun wx hx => by go_simp⟩) hT1 ?_
    try dsimp only
    try simp only [Act.put, List.getElem_toArray, List.getElem_cons_succ, List.getElem_cons_zero, List.setIfInBounds_toArray, List.set_cons_zero, List.set_cons_succ]
    refine wpAnyH_all (rs := [16]) (by kernel_rfl) (by simp) ?_
    intro j hj
    simp only [List.mem_cons, List.not_mem_nil, or_false] at hj
    subst hj
    obtain ⟨cur, hcur, hfit, hn6⟩ := sync_part22 (HN.out.below hb5) k c hc M _ hM
    refine wpOp_of_wp rfl rfl (wp_store_lay 96 _ _ rfl gn _ M rfl rfl _ cur hcur (info_lfA hM) (by rw [hM.size]; exact hfit) hM.one ?_)
    refine ⟨cell_setRow (by exact hbg) hT1, ?_⟩
    try dsimp only
    try simp only [Act.put, List.getElem_toArray, List.getElem_cons_succ, List.getElem_cons_zero, List.setIfInBounds_toArray, List.set_cons_zero, List.set_cons_succ]
    refine wpAnyH_done (by kernel_rfl) ?_ _
    obtain ⟨w6, e6⟩ : ∃ w6, w6 = w5.setRow gn (lay cur (k * 46 + 22) M.toList) := ⟨_, rfl⟩
    rw [← e6] at hn6 ⊢
    have c26 : w6.cell? ⟨bw, 2, none⟩ = some (.slice (some ⟨gn, 0, none⟩) N cn) := by rw [e6]; exact cell_setRow (by exact hbg) hT1
    have hkC : k < C.length := (List.getElem?_eq_some_iff.1 hc).1
    have hx : (C.set k { c with kept := { LF with ve := s } })[k]? = some { c with kept := { LF with ve := s } } := by rw [List.getElem?_set_self hkC]
    have c644 : w6.cell? ⟨gn, k * 46 + 44, none⟩ = some (.slice IS.p IS.n IS.c) := by rw [HEQ.out.2.2.2]; exact hn6.cell_at k _ hx 44 _ (NdC.get_vi _)
    have c645 : w6.cell? ⟨gn, k * 46 + 45, none⟩ = some (.slice c.vs.p c.vs.n c.vs.c) := hn6.cell_at k _ hx 45 _ (NdC.get_vs { c with kept := { LF with ve := s } })
    have HIL : Hid (IL.length = IS.n ∧ RowsAt clIt w6 IS.p IL ∧ IS.n ≤ 1000000000) := by
      unfold Hid
      rw [HEQ.out.2.2.1, HEQ.out.2.2.2]
      have hit := HRP.out.1.items
      have tgn : own gn = .wd 2 := HW.out.tn gn rfl
      have ho6 : Own clIt w6 B0 114 c.vi.val d.items := hit.chg fun j hj => by
        rw [e6, setRow_other _ _ _ _ (by intro e; have := HRP.out.1.ti j hj; rw [e, tgn] at this; simp at this)]
        exact hb5.block j (hit.lt j hj).2
      exact ⟨ho6.sl.1, ho6.sl.2, by have := HRP.out.2.li; have := ho6.sl.1; omega⟩
    have HN6 : Hid (Own clNd w6 B0 98 (.slice (some ⟨gn, 0, none⟩) N cn) (C.set k { c with kept := { LF with ve := s } })) := hn6
    have HOW : Hid (Own clEv w5 w.heap.size 100 s.val EV) := hown
    have HB5 : Hid (Below w.heap.size w w5) := hb5
    have HE6 : Hid (w6 = w5.setRow gn (lay cur (k * 46 + 22) M.toList)) := e6
    clear hx hn6 hown e6 hT0 hT1 c2 hcur hfit hM hA hb5
    go_upto_region 5 with fail
    have hT0 : (fun w' : World => w'.cell? ⟨bw, 2, none⟩ = some (.slice (some ⟨gn, 0, none⟩) N cn)) w6.drew := c26
    refine wp_region_held (S := fun w' : World => w'.cell? ⟨bw, 2, none⟩ = some (.slice (some ⟨gn, 0, none⟩) N cn)) mixed ?_
    refine wpAnyH_take (i := 0) (v := (.pointer (some ⟨bw, 0, none⟩))) rfl (by kernel_rfl) (by kernel_rfl) (by kernel_rfl) (fun _ _ _ h => h) (Or.inl ⟨by rfl, fun wx hx => by go_simp⟩) hT0 ?_
    try dsimp only
    try simp only [Act.put, List.getElem_toArray, List.getElem_cons_succ, List.getElem_cons_zero, List.setIfInBounds_toArray, List.set_cons_zero, List.set_cons_succ]
    refine wpAnyH_take (i := 1) (v := (.pointer (some ⟨bw, 0, none⟩))) rfl (by kernel_rfl) (by kernel_rfl) (by kernel_rfl) (fun _ _ _ h => h) (Or.inl ⟨by rfl, fun wx hx => by go_simp⟩) hT0 ?_
    try dsimp only
    try simp only [Act.put, List.getElem_toArray, List.getElem_cons_succ, List.getElem_cons_zero, List.setIfInBounds_toArray, List.set_cons_zero, List.set_cons_succ]
    refine wpAnyH_take (i := 2) (v := (.pointer (some ⟨bw, 2, none⟩))) rfl (by kernel_rfl) (by kernel_rfl) (by kernel_rfl) (fun _ _ _ h => h) (Or.inl ⟨by rfl, fun wx hx => by go_simp⟩) hT0 ?_
    try dsimp only
    try simp only [Act.put, List.getElem_toArray, List.getElem_cons_succ, List.getElem_cons_zero, List.setIfInBounds_toArray, List.set_cons_zero, List.set_cons_succ]
    refine wpAnyH_take (i := 3) (v := (.slice (some ⟨gn, 0, none⟩) N cn)) rfl (by kernel_rfl) (by kernel_rfl) (by kernel_rfl) (fun _ _ _ h => h) (Or.inl ⟨by rfl, fun wx hx => by have hx1 := hx; go_simp⟩) hT0 ?_
    try dsimp only
    try simp only [Act.put, List.getElem_toArray, List.getElem_cons_succ, List.getElem_cons_zero, List.setIfInBounds_toArray, List.set_cons_zero, List.set_cons_succ]
    refine wpAnyH_take (i := 4) (v := (.int .i64 k)) rfl (by kernel_rfl) (by kernel_rfl) (by kernel_rfl) (fun _ _ _ h => h) (Or.inl ⟨by rfl, fun wx hx => by go_simp⟩) hT0 ?_
    try dsimp only
    try simp only [Act.put, List.getElem_toArray, List.getElem_cons_succ, List.getElem_cons_zero, List.setIfInBounds_toArray, List.set_cons_zero, List.set_cons_succ]
    refine wpAnyH_take (i := 5) (v := (.pointer (some ⟨bw, 0, none⟩))) rfl (by kernel_rfl) (by kernel_rfl) (by kernel_rfl) (fun _ _ _ h => h) (Or.inl ⟨by rfl, fun wx hx => by go_simp⟩) hT0 ?_
    try dsimp only
    try simp only [Act.put, List.getElem_toArray, List.getElem_cons_succ, List.getElem_cons_zero, List.setIfInBounds_toArray, List.set_cons_zero, List.set_cons_succ]
    refine wpAnyH_take (i := 6) (v := (.pointer (some ⟨bw, 0, none⟩))) rfl (by kernel_rfl) (by kernel_rfl) (by kernel_rfl) (fun _ _ _ h => h) (Or.inl ⟨by rfl, fun wx hx => by go_simp⟩) hT0 ?_
    try dsimp only
    try simp only [Act.put, List.getElem_toArray, List.getElem_cons_succ, List.getElem_cons_zero, List.setIfInBounds_toArray, List.set_cons_zero, List.set_cons_succ]
    refine wpAnyH_take (i := 7) (v := (.pointer (some ⟨bw, 2, none⟩))) rfl (by kernel_rfl) (by kernel_rfl) (by kernel_rfl) (fun _ _ _ h => h) (Or.inl ⟨by rfl, fun wx hx => by go_simp⟩) hT0 ?_
    try dsimp only
    try simp only [Act.put, List.getElem_toArray, List.getElem_cons_succ, List.getElem_cons_zero, List.setIfInBounds_toArray, List.set_cons_zero, List.set_cons_succ]
    refine wpAnyH_take (i := 8) (v := (.slice (some ⟨gn, 0, none⟩) N cn)) rfl (by kernel_rfl) (by kernel_rfl) (by kernel_rfl) (fun _ _ _ h => h) (Or.inl ⟨by rfl, fun wx hx => by have hx1 := hx; go_simp⟩) hT0 ?_
    try dsimp only
    try simp only [Act.put, List.getElem_toArray, List.getElem_cons_succ, List.getElem_cons_zero, List.setIfInBounds_toArray, List.set_cons_zero, List.set_cons_succ]
    refine wpAnyH_take (i := 9) (v := (.int .i64 k)) rfl (by kernel_rfl) (by kernel_rfl) (by kernel_rfl) (fun _ _ _ h => h) (Or.inl ⟨by rfl, fun wx hx => by go_simp⟩) hT0 ?_
    try dsimp only
    try simp only [Act.put, List.getElem_toArray, List.getElem_cons_succ, List.getElem_cons_zero, List.setIfInBounds_toArray, List.set_cons_zero, List.set_cons_succ]
    refine wpAnyH_take (i := 10) (v := (.pointer (some ⟨gn, k * 46, none⟩))) rfl (by kernel_rfl) (by kernel_rfl) (by kernel_rfl) (fun _ _ _ h => h) (Or.inl ⟨by rfl, fun wx hx => by go_simp⟩) hT0 ?_
    try dsimp only
    try simp only [Act.put, List.getElem_toArray, List.getElem_cons_succ, List.getElem_cons_zero, List.setIfInBounds_toArray, List.set_cons_zero, List.set_cons_succ]
    refine wpAnyH_take (i := 11) (v := (.pointer (some ⟨gn, k * 46 + 44, none⟩))) rfl (by kernel_rfl) (by kernel_rfl) (by kernel_rfl) (fun _ _ _ h => h) (Or.inl ⟨by rfl, fun wx hx => by go_simp⟩) hT0 ?_
    try dsimp only
    try simp only [Act.put, List.getElem_toArray, List.getElem_cons_succ, List.getElem_cons_zero, List.setIfInBounds_toArray, List.set_cons_zero, List.set_cons_succ]
    refine wpAnyH_all (rs := [12]) (by kernel_rfl) (by simp) ?_
    intro j hj
    simp only [List.mem_cons, List.not_mem_nil, or_false] at hj
    subst hj
    refine wpOp_of_wp rfl rfl (hideK ?_)
    intro K' hK'
    go_simp
    rw [hK'.out]
    refine ⟨hT0, ?_⟩
    try dsimp only
    try simp only [Act.put, List.getElem_toArray, List.getElem_cons_succ, List.getElem_cons_zero, List.setIfInBounds_toArray, List.set_cons_zero, List.set_cons_succ]
    refine wpAnyH_all (rs := [13]) (by kernel_rfl) (by simp) ?_
    intro j hj
    simp only [List.mem_cons, List.not_mem_nil, or_false] at hj
    subst hj
    refine wpOp_of_wp rfl rfl ?_
    go_simp
    refine (ritems_any IL IS.p IS.n IS.c w6.drew HIL.out.1 (by exact HIL.out.2.1) HIL.out.2.2).mono ?_
    rintro e w7 ⟨v7, rfl, hown7, hb7⟩
    replace hb7 : Below w6.heap.size w6 w7 := below_drawn' hb7
    replace hown7 : Own clIt w7 w6.heap.size 114 v7 IL := hown7
    have hT1 : (fun w' : World => w'.cell? ⟨bw, 2, none⟩ = some (.slice (some ⟨gn, 0, none⟩) N cn)) w7 := cell_keep hb7 c26
    refine ⟨hT1, ?_⟩
    try dsimp only
    try simp only [Act.put, List.getElem_toArray, List.getElem_cons_succ, List.getElem_cons_zero, List.setIfInBounds_toArray, List.set_cons_zero, List.set_cons_succ]
    refine wpAnyH_take (i := 14) (v := (.pointer (some ⟨gn, k * 46, none⟩))) rfl (by kernel_rfl) (by kernel_rfl) (by kernel_rfl) (fun _ _ _ h => h) (Or.inl ⟨by rfl, fun wx hx => by go_simp⟩) hT1 ?_
    try dsimp only
    try simp only [Act.put, List.getElem_toArray, List.getElem_cons_succ, List.getElem_cons_zero, List.setIfInBounds_toArray, List.set_cons_zero, List.set_cons_succ]
    refine wpAnyH_take (i := 15) (v := (.pointer (some ⟨gn, k * 46 + 45, none⟩))) rfl (by kernel_rfl) (by kernel_rfl) (by kernel_rfl) (fun _ _ _ h => h) (Or.inl ⟨by rfl, fun wx hx => by go_simp⟩) hT1 ?_
    try dsimp only
    try simp only [Act.put, List.getElem_toArray, List.getElem_cons_succ, List.getElem_cons_zero, List.setIfInBounds_toArray, List.set_cons_zero, List.set_cons_succ]
    refine wpAnyH_all (rs := [16]) (by kernel_rfl) (by simp) ?_
    intro j hj
    simp only [List.mem_cons, List.not_mem_nil, or_false] at hj
    subst hj
    obtain ⟨s7, rfl⟩ : ∃ s7 : Sl, v7 = .slice s7.p s7.n s7.c := by obtain ⟨p, c, e, _⟩ := hown7.form; exact ⟨⟨p, _, c⟩, e⟩
    obtain ⟨u, hu⟩ : ∃ u, w7.cell? ⟨gn, k * 46 + 45, none⟩ = some u := ⟨_, cell_keep hb7 c645⟩
    have fu : w7.frozen? ⟨gn, k * 46 + 45, none⟩ = false := by obtain ⟨cur, hcur⟩ := (HN6.out.below hb7).blk; exact frozen_of_row _ _ _ _ _ hcur
    refine wpOp_of_wp rfl rfl (hideK ?_)
    intro K' hK'
    go_simp
    rw [hK'.out]
    refine ⟨cell_set (by exact hbg) hT1, ?_⟩
    try dsimp only
    try simp only [Act.put, List.getElem_toArray, List.getElem_cons_succ, List.getElem_cons_zero, List.setIfInBounds_toArray, List.set_cons_zero, List.set_cons_succ]
    refine wpAnyH_done (by kernel_rfl) ?_ _
    have Z := sync_done HNN.out HW.out hB0 k c d hc hd s s7 HB5.out (by rw [← HEQ.out.2.1]; exact HOW.out) _ HE6.out (by have x := HN6.out; rw [HEQ.out.1] at x; exact x) hb7 (by rw [← HEQ.out.2.2.1]; exact hown7)
    clear hown7 hT0 hT1 hu fu hb7
    go_wp2
    go_ret
    obtain ⟨own', C', z1, z2, z3⟩ := Z
    exact ⟨by rw [HE.out]; rfl, own', C', by rw [HD.out]; exact z1, z2, z3⟩
  · have h1' : isNd t n = false := by simpa using h1
    have HE : Hid (ndE t n = 2) := by unfold Hid ndE; rw [if_neg h1]
    have HS : Hid (∃ own' C', WRep w own' B0 bw t wid (synD t D n) vt vn C' ∧ Same w own own' ∧ Fr own isWd w w) := ⟨own, C, by unfold synD; rw [if_neg h1]; exact h, Same.refl _ _, Fr.refl _ _ _⟩
    clear h hl
    go_enter Tryz.func27, Tryz.ntmps27
    go_wp2_with (go_at_call 54; refine (isNode_any _ _ _ _ t HT.out _).mono ?_; rintro e wA ⟨rfl, rfl⟩; rw [h1'])
    go_ret
    obtain ⟨own', C', z1, z2, z3⟩ := HS.out
    exact ⟨by rw [HE.out]; rfl, own', C', z1, z2, z3⟩
end Go.Proofs.YtpglbakcjihohaaGreat

/-! The document's Crash, for every node. -/
namespace Go.Proofs.YtpglbakcjihohaaGreat
open Go.RowKit
set_option maxRecDepth 100000

theorem crash_done {w w5 w6 w7 : World} {own : Ghost} {B0 bw : Nat} {t : List Int} {wid : Int} {D : List Nd} {vt : Sl} {gn cn N : Nat} {C : List NdC} (hN : t.length = N) (h : WRep w own B0 bw t wid D vt ⟨some ⟨gn, 0, none⟩, t.length, cn⟩ C) (hB0 : B0 ≤ w.heap.size) (k : Nat) (c : NdC) (d : Nd) (hc : C[k]? = some c) (hd : D[k]? = some d)
    (s s7 : Sl) (hb5 : Below w.heap.size w w5) (hown : Own clEv w5 w.heap.size 100 s.val d.kev) (X : Array Value) (e6 : w6 = w5.setRow gn X)
    (hn6 : Own clNd w6 B0 98 (.slice (some ⟨gn, 0, none⟩) N cn) (C.set k { c with live := { c.kept with ve := s } })) (hb7 : Below w6.heap.size w6 w7) (hown7 : Own clIt w7 w6.heap.size 114 s7.val d.saved) :
    ∃ own' C', WRep (w7.setCell ⟨gn, k * 46 + 44, none⟩ s7.val) own' B0 bw t wid (D.set k { d with lev := d.kev, lcl := d.kcl, lmk := d.kmk, items := d.saved }) vt ⟨some ⟨gn, 0, none⟩, t.length, cn⟩ C' ∧ Same w own own' ∧ Fr own isWd w (w7.setCell ⟨gn, k * 46 + 44, none⟩ s7.val) := by
  subst hN
  have rep := h.rep k c d hc hd
  have ok := h.ok k d hd
  have tgn : own gn = .wd 2 := h.tn gn rfl
  have hgn : gn < w.heap.size := (h.nodes.lt gn rfl).2
  have hkC : k < C.length := (List.getElem?_eq_some_iff.1 hc).1
  have s6 : w6.heap.size = w5.heap.size := by rw [e6]; simp
  have hs5 := hb5.size
  have hs7 := hb7.size
  have blk : ∀ j, j < w6.heap.size → j ≠ gn → (w7.setCell ⟨gn, k * 46 + 44, none⟩ s7.val).heap[j]? = w5.heap[j]? := fun j hj hne => by
    rw [heap_setCell_other _ _ _ _ (by show j ≠ gn; exact hne), hb7.block j hj, e6, setRow_other _ _ _ _ hne]
  have g : w.grownBy (w7.setCell ⟨gn, k * 46 + 44, none⟩ s7.val) (some gn) := by
    refine ⟨?_, ?_, ?_, by simp; omega, fun j hj hne => ?_⟩
    · exact hb7.os.trans (by rw [e6]; exact hb5.os)
    · exact hb7.tape.trans (by rw [e6]; exact hb5.tape)
    · exact hb7.output.trans (by rw [e6]; exact hb5.output)
    · rw [blk j (by omega) (fun e => hne (by rw [e]))]; exact hb5.block j hj
  have far : ∀ (v : Value) (i : Nat) {β : Type} {C : Cl β} {e : TypeId} {l : List β}, i ≠ 2 → TgV own v (.wd i) → Own C w B0 e v l → Own C (w7.setCell ⟨gn, k * 46 + 44, none⟩ s7.val) B0 e v l := fun v i _ _ _ _ hi ht ho => ho.chg fun j hj => g.block j (ho.lt j hj).2 fun e => by
    have := ht j hj
    rw [Option.some.inj e, tgn] at this
    simp at this
    omega
  obtain ⟨own', same, f, t1, t2⟩ := renew h k (4 * k + 3) (4 * k + 5) s.val s7.val (fun j hj => (hown.lt j hj).1) (fun j hj => by have := (hown7.lt j hj).1; omega) (fun j h1 h2 => by have := (hown.lt j h1).2; have := (hown7.lt j h2).1; omega) g
  have hx : (C.set k { c with live := { c.kept with ve := s } })[k]? = some { c with live := { c.kept with ve := s } } := by rw [List.getElem?_set_self hkC]
  have hn8 := (hn6.below hb7).cell_set k _ { c with live := { c.kept with ve := s }, vi := s7 } hx 44 s7.val (by decide) (NdC.set_vi { c with live := { c.kept with ve := s } } s7)
  rw [List.set_set] at hn8
  refine ⟨own', _, h.upd k _ _ f same hn8 ⟨rep.kcl, rep.kmk, rep.kcl, rep.kmk, ?_, far _ _ (by omega) rep.tk rep.kev, ?_, far _ _ (by omega) rep.ts rep.saved, t1, rep.tk.own same rep.kev (by simp), t2, rep.ts.own same rep.saved (by simp)⟩ ⟨ok.kev, ok.kev, ok.kmk, ok.kmk, ok.saved, ok.saved, ok.ls, ok.ls⟩, same, f.mono fun t ht => ofNode_wd ht⟩
  · exact (hown.chg fun j hj => blk j (by have := (hown.lt j hj).2; omega) (by have := (hown.lt j hj).1; omega)).mono hB0
  · exact (hown7.chg fun j hj => heap_setCell_other _ _ _ _ (by show j ≠ gn; have := (hown7.lt j hj).1; omega)).mono (by omega)
/-- Crash: a node lives as it is stored. -/
def craD (t : List Int) (D : List Nd) (n : Int) : List Nd := if isNd t n = true then (match D[n.toNat]? with | some d => D.set n.toNat { d with lev := d.kev, lcl := d.kcl, lmk := d.kmk, items := d.saved } | none => D) else D
set_option maxHeartbeats 4000000 in
theorem rCrash_any (w : World) (own : Ghost) (B0 bw : Nat) (t : List Int) (wid : Int) (D : List Nd) (vt vn : Sl) (C : List NdC) (h : WRep w own B0 bw t wid D vt vn C) (n : Int) (hB0 : B0 ≤ w.heap.size) (hl : ∀ (k : Nat) (d : Nd), D[k]? = some d → d.lev.length ≤ 1000000000 ∧ d.kev.length ≤ 1000000000) :
    Calls Tryz.prog 29 #[.pointer (some ⟨bw, 0, none⟩), .int .i64 n] w fun e w' => e = .returned (.int .i64 (ndE t n)) ∧ ∃ own' C', WRep w' own' B0 bw t wid (craD t D n) vt vn C' ∧ Same w own own' ∧ Fr own isWd w w' := by
  have HT : Hid (TreeAt w bw vt.p vt.c t) := h.treeAt
  by_cases h1 : isNd t n = true
  · obtain ⟨k, c, d, rfl, hk, hc, hd, rep, ok⟩ := h.at n h1
    have h8 := h.T.le
    obtain ⟨gn, cn, rfl⟩ := h.row
    have hnodes : Own clNd w B0 98 (.slice (some ⟨gn, 0, none⟩) t.length cn) C := h.nodes
    have hgnl := (hnodes.lt gn rfl).2
    have hbw := lt_of_blk h.main
    have c2' := h.rowcell
    have tgn : own gn = .wd 2 := h.tn gn rfl
    have tbw := h.tm
    have hbg : bw ≠ gn := fun e => by rw [e, tgn] at tbw; simp at tbw
    obtain ⟨N, hN⟩ : ∃ N, t.length = N := ⟨_, rfl⟩
    have c2 : w.cell? ⟨bw, 2, none⟩ = some (.slice (some ⟨gn, 0, none⟩) N cn) := by rw [← hN]; exact c2'
    rw [hN] at hk h8 hnodes
    have HE : Hid (ndE t k = 0) := by unfold Hid ndE; rw [if_pos h1]
    have HD : Hid (craD t D k = D.set k { d with lev := d.kev, lcl := d.kcl, lmk := d.kmk, items := d.saved }) := by unfold Hid craD; rw [if_pos h1]; simp [hd]
    have HW : Hid (WRep w own B0 bw t wid D vt ⟨some ⟨gn, 0, none⟩, t.length, cn⟩ C) := h
    have HN : Hid (Own clNd w B0 98 (.slice (some ⟨gn, 0, none⟩) N cn) C) := hnodes
    obtain ⟨LF, hLF⟩ : ∃ LF, LF = c.kept := ⟨_, rfl⟩
    obtain ⟨EV, hEV⟩ : ∃ EV, EV = d.kev := ⟨_, rfl⟩
    obtain ⟨IL, hIL⟩ : ∃ IL, IL = d.saved := ⟨_, rfl⟩
    obtain ⟨IS, hIS⟩ : ∃ IS, IS = c.vs := ⟨_, rfl⟩
    have HL : Hid (w.rangeAt gn (k * 46 + 22) LF.cells) := by unfold Hid; rw [hLF]; exact hnodes.kept k c hc
    have HEV : Hid (EV.length = LF.ve.n ∧ RowsAt clEv w LF.ve.p EV ∧ LF.ve.n ≤ 1000000000) := by unfold Hid; rw [hLF, hEV]; exact ⟨rep.kev.sl.1, rep.kev.sl.2, by rw [← rep.kev.sl.1]; exact (hl k d hd).2⟩
    have HEQ : Hid (LF = c.kept ∧ EV = d.kev ∧ IL = d.saved ∧ IS = c.vs) := ⟨hLF, hEV, hIL, hIS⟩
    have HRP : Hid (NdRep w own B0 k c d ∧ d.Ok) := ⟨rep, ok⟩
    have HNN : Hid (t.length = N) := hN
    clear c2' h hnodes rep ok hl hLF hEV hIL hIS tgn tbw hN
    have k0 : (0 : Int) ≤ (k : Int) := by omega
    have k1 : (k : Int) < (N : Int) := by omega
    go_enter Tryz.func29, Tryz.ntmps29
    go_upto_region 4 with (go_at_call 54; refine (isNode_any _ _ _ _ t HT.out _).mono ?_; rintro e wA ⟨rfl, rfl⟩; rw [h1])
    rename World => w
    have hT0 : (fun w' : World => w'.cell? ⟨bw, 2, none⟩ = some (.slice (some ⟨gn, 0, none⟩) N cn)) w.drew := c2
    refine wp_region_held (S := fun w' : World => w'.cell? ⟨bw, 2, none⟩ = some (.slice (some ⟨gn, 0, none⟩) N cn)) mixed ?_
    refine wpAnyH_take (i := 0) (v := (.pointer (some ⟨bw, 0, none⟩))) rfl (by kernel_rfl) (by kernel_rfl) (by kernel_rfl) (fun _ _ _ h => h) (Or.inl ⟨by rfl, fun wx hx => by go_simp⟩) hT0 ?_
    try dsimp only
    try simp only [Act.put, List.getElem_toArray, List.getElem_cons_succ, List.getElem_cons_zero, List.setIfInBounds_toArray, List.set_cons_zero, List.set_cons_succ]
    refine wpAnyH_take (i := 1) (v := (.pointer (some ⟨bw, 0, none⟩))) rfl (by kernel_rfl) (by kernel_rfl) (by kernel_rfl) (fun _ _ _ h => h) (Or.inl ⟨by rfl, fun wx hx => by go_simp⟩) hT0 ?_
    try dsimp only
    try simp only [Act.put, List.getElem_toArray, List.getElem_cons_succ, List.getElem_cons_zero, List.setIfInBounds_toArray, List.set_cons_zero, List.set_cons_succ]
    refine wpAnyH_take (i := 2) (v := (.pointer (some ⟨bw, 2, none⟩))) rfl (by kernel_rfl) (by kernel_rfl) (by kernel_rfl) (fun _ _ _ h => h) (Or.inl ⟨by rfl, fun wx hx => by go_simp⟩) hT0 ?_
    try dsimp only
    try simp only [Act.put, List.getElem_toArray, List.getElem_cons_succ, List.getElem_cons_zero, List.setIfInBounds_toArray, List.set_cons_zero, List.set_cons_succ]
    refine wpAnyH_take (i := 3) (v := (.slice (some ⟨gn, 0, none⟩) N cn)) rfl (by kernel_rfl) (by kernel_rfl) (by kernel_rfl) (fun _ _ _ h => h) (Or.inl ⟨by rfl, fun wx hx => by have hx1 := hx; go_simp⟩) hT0 ?_
    try dsimp only
    try simp only [Act.put, List.getElem_toArray, List.getElem_cons_succ, List.getElem_cons_zero, List.setIfInBounds_toArray, List.set_cons_zero, List.set_cons_succ]
    refine wpAnyH_take (i := 4) (v := (.int .i64 k)) rfl (by kernel_rfl) (by kernel_rfl) (by kernel_rfl) (fun _ _ _ h => h) (Or.inl ⟨by rfl, fun wx hx => by go_simp⟩) hT0 ?_
    try dsimp only
    try simp only [Act.put, List.getElem_toArray, List.getElem_cons_succ, List.getElem_cons_zero, List.setIfInBounds_toArray, List.set_cons_zero, List.set_cons_succ]
    refine wpAnyH_take (i := 5) (v := (.pointer (some ⟨bw, 0, none⟩))) rfl (by kernel_rfl) (by kernel_rfl) (by kernel_rfl) (fun _ _ _ h => h) (Or.inl ⟨by rfl, fun wx hx => by go_simp⟩) hT0 ?_
    try dsimp only
    try simp only [Act.put, List.getElem_toArray, List.getElem_cons_succ, List.getElem_cons_zero, List.setIfInBounds_toArray, List.set_cons_zero, List.set_cons_succ]
    refine wpAnyH_take (i := 6) (v := (.pointer (some ⟨bw, 0, none⟩))) rfl (by kernel_rfl) (by kernel_rfl) (by kernel_rfl) (fun _ _ _ h => h) (Or.inl ⟨by rfl, fun wx hx => by go_simp⟩) hT0 ?_
    try dsimp only
    try simp only [Act.put, List.getElem_toArray, List.getElem_cons_succ, List.getElem_cons_zero, List.setIfInBounds_toArray, List.set_cons_zero, List.set_cons_succ]
    refine wpAnyH_take (i := 7) (v := (.pointer (some ⟨bw, 2, none⟩))) rfl (by kernel_rfl) (by kernel_rfl) (by kernel_rfl) (fun _ _ _ h => h) (Or.inl ⟨by rfl, fun wx hx => by go_simp⟩) hT0 ?_
    try dsimp only
    try simp only [Act.put, List.getElem_toArray, List.getElem_cons_succ, List.getElem_cons_zero, List.setIfInBounds_toArray, List.set_cons_zero, List.set_cons_succ]
    refine wpAnyH_take (i := 8) (v := (.slice (some ⟨gn, 0, none⟩) N cn)) rfl (by kernel_rfl) (by kernel_rfl) (by kernel_rfl) (fun _ _ _ h => h) (Or.inl ⟨by rfl, fun wx hx => by have hx1 := hx; go_simp⟩) hT0 ?_
    try dsimp only
    try simp only [Act.put, List.getElem_toArray, List.getElem_cons_succ, List.getElem_cons_zero, List.setIfInBounds_toArray, List.set_cons_zero, List.set_cons_succ]
    refine wpAnyH_take (i := 9) (v := (.int .i64 k)) rfl (by kernel_rfl) (by kernel_rfl) (by kernel_rfl) (fun _ _ _ h => h) (Or.inl ⟨by rfl, fun wx hx => by go_simp⟩) hT0 ?_
    try dsimp only
    try simp only [Act.put, List.getElem_toArray, List.getElem_cons_succ, List.getElem_cons_zero, List.setIfInBounds_toArray, List.set_cons_zero, List.set_cons_succ]
    refine wpAnyH_take (i := 10) (v := (.pointer (some ⟨gn, k * 46, none⟩))) rfl (by kernel_rfl) (by kernel_rfl) (by kernel_rfl) (fun _ _ _ h => h) (Or.inl ⟨by rfl, fun wx hx => by go_simp⟩) hT0 ?_
    try dsimp only
    try simp only [Act.put, List.getElem_toArray, List.getElem_cons_succ, List.getElem_cons_zero, List.setIfInBounds_toArray, List.set_cons_zero, List.set_cons_succ]
    refine wpAnyH_take (i := 11) (v := (.pointer (some ⟨gn, k * 46 + 22, none⟩))) rfl (by kernel_rfl) (by kernel_rfl) (by kernel_rfl) (fun _ _ _ h => h) (Or.inl ⟨by rfl, fun wx hx => by go_simp⟩) hT0 ?_
    try dsimp only
    try simp only [Act.put, List.getElem_toArray, List.getElem_cons_succ, List.getElem_cons_zero, List.setIfInBounds_toArray, List.set_cons_zero, List.set_cons_succ]
    refine wpAnyH_all (rs := [12]) (by kernel_rfl) (by simp) ?_
    intro j hj
    simp only [List.mem_cons, List.not_mem_nil, or_false] at hj
    subst hj
    refine wpOp_of_wp rfl rfl (wp_load_lf_mid _ rfl gn _ rfl LF (by exact HL.out) ?_)
    intro A hA
    refine ⟨hT0, ?_⟩
    try dsimp only
    try simp only [Act.put, List.getElem_toArray, List.getElem_cons_succ, List.getElem_cons_zero, List.setIfInBounds_toArray, List.set_cons_zero, List.set_cons_succ]
    refine wpAnyH_all (rs := [13]) (by kernel_rfl) (by simp) ?_
    intro j hj
    simp only [List.mem_cons, List.not_mem_nil, or_false] at hj
    subst hj
    refine wpOp_of_wp rfl rfl ?_
    go_simp
    refine (again_any LF A hA w.drew EV HEV.out.1 (by exact HEV.out.2.1) HEV.out.2.2).mono ?_
    rintro e w5 ⟨M, s, rfl, hM, hown, hb5⟩
    replace hb5 : Below w.heap.size w w5 := below_drawn' hb5
    replace hown : Own clEv w5 w.heap.size 100 s.val EV := hown
    have hT1 : (fun w' : World => w'.cell? ⟨bw, 2, none⟩ = some (.slice (some ⟨gn, 0, none⟩) N cn)) w5 := cell_keep hb5 c2
    refine ⟨hT1, ?_⟩
    try dsimp only
    try simp only [Act.put, List.getElem_toArray, List.getElem_cons_succ, List.getElem_cons_zero, List.setIfInBounds_toArray, List.set_cons_zero, List.set_cons_succ]
    refine wpAnyH_take (i := 14) (v := (.pointer (some ⟨gn, k * 46, none⟩))) rfl (by kernel_rfl) (by kernel_rfl) (by kernel_rfl) (fun _ _ _ h => h) (Or.inl ⟨by rfl, fun wx hx => by go_simp⟩) hT1 ?_
    try dsimp only
    try simp only [Act.put, List.getElem_toArray, List.getElem_cons_succ, List.getElem_cons_zero, List.setIfInBounds_toArray, List.set_cons_zero, List.set_cons_succ]
    refine wpAnyH_take (i := 15) (v := (.pointer (some ⟨gn, k * 46, none⟩))) rfl (by kernel_rfl) (by kernel_rfl) (by kernel_rfl) (fun _ _ _ h => h) (Or.inl ⟨by rfl, fun wx hx => by go_simp⟩) hT1 ?_
    try dsimp only
    try simp only [Act.put, List.getElem_toArray, List.getElem_cons_succ, List.getElem_cons_zero, List.setIfInBounds_toArray, List.set_cons_zero, List.set_cons_succ]
    refine wpAnyH_all (rs := [16]) (by kernel_rfl) (by simp) ?_
    intro j hj
    simp only [List.mem_cons, List.not_mem_nil, or_false] at hj
    subst hj
    obtain ⟨cur, hcur, hfit, hn6⟩ := sync_part0 (HN.out.below hb5) k c hc M _ hM
    refine wpOp_of_wp rfl rfl (wp_store_lay 96 _ _ rfl gn _ M rfl rfl _ cur hcur (info_lfA hM) (by rw [hM.size]; exact hfit) hM.one ?_)
    refine ⟨cell_setRow (by exact hbg) hT1, ?_⟩
    try dsimp only
    try simp only [Act.put, List.getElem_toArray, List.getElem_cons_succ, List.getElem_cons_zero, List.setIfInBounds_toArray, List.set_cons_zero, List.set_cons_succ]
    refine wpAnyH_done (by kernel_rfl) ?_ _
    obtain ⟨w6, e6⟩ : ∃ w6, w6 = w5.setRow gn (lay cur (k * 46) M.toList) := ⟨_, rfl⟩
    rw [← e6] at hn6 ⊢
    have c26 : w6.cell? ⟨bw, 2, none⟩ = some (.slice (some ⟨gn, 0, none⟩) N cn) := by rw [e6]; exact cell_setRow (by exact hbg) hT1
    have hkC : k < C.length := (List.getElem?_eq_some_iff.1 hc).1
    have hx : (C.set k { c with live := { LF with ve := s } })[k]? = some { c with live := { LF with ve := s } } := by rw [List.getElem?_set_self hkC]
    have c645 : w6.cell? ⟨gn, k * 46 + 45, none⟩ = some (.slice IS.p IS.n IS.c) := by rw [HEQ.out.2.2.2]; exact hn6.cell_at k _ hx 45 _ (NdC.get_vs _)
    have c644 : w6.cell? ⟨gn, k * 46 + 44, none⟩ = some (.slice c.vi.p c.vi.n c.vi.c) := hn6.cell_at k _ hx 44 _ (NdC.get_vi { c with live := { LF with ve := s } })
    have HIL : Hid (IL.length = IS.n ∧ RowsAt clIt w6 IS.p IL ∧ IS.n ≤ 1000000000) := by
      unfold Hid
      rw [HEQ.out.2.2.1, HEQ.out.2.2.2]
      have hit := HRP.out.1.saved
      have tgn : own gn = .wd 2 := HW.out.tn gn rfl
      have ho6 : Own clIt w6 B0 114 c.vs.val d.saved := hit.chg fun j hj => by
        rw [e6, setRow_other _ _ _ _ (by intro e; have := HRP.out.1.ts j hj; rw [e, tgn] at this; simp at this)]
        exact hb5.block j (hit.lt j hj).2
      exact ⟨ho6.sl.1, ho6.sl.2, by have := HRP.out.2.ls; have := ho6.sl.1; omega⟩
    have HN6 : Hid (Own clNd w6 B0 98 (.slice (some ⟨gn, 0, none⟩) N cn) (C.set k { c with live := { LF with ve := s } })) := hn6
    have HOW : Hid (Own clEv w5 w.heap.size 100 s.val EV) := hown
    have HB5 : Hid (Below w.heap.size w w5) := hb5
    have HE6 : Hid (w6 = w5.setRow gn (lay cur (k * 46) M.toList)) := e6
    clear hx hn6 hown e6 hT0 hT1 c2 hcur hfit hM hA hb5
    go_upto_region 5 with fail
    have hT0 : (fun w' : World => w'.cell? ⟨bw, 2, none⟩ = some (.slice (some ⟨gn, 0, none⟩) N cn)) w6.drew := c26
    refine wp_region_held (S := fun w' : World => w'.cell? ⟨bw, 2, none⟩ = some (.slice (some ⟨gn, 0, none⟩) N cn)) mixed ?_
    refine wpAnyH_take (i := 0) (v := (.pointer (some ⟨bw, 0, none⟩))) rfl (by kernel_rfl) (by kernel_rfl) (by kernel_rfl) (fun _ _ _ h => h) (Or.inl ⟨by rfl, fun wx hx => by go_simp⟩) hT0 ?_
    try dsimp only
    try simp only [Act.put, List.getElem_toArray, List.getElem_cons_succ, List.getElem_cons_zero, List.setIfInBounds_toArray, List.set_cons_zero, List.set_cons_succ]
    refine wpAnyH_take (i := 1) (v := (.pointer (some ⟨bw, 0, none⟩))) rfl (by kernel_rfl) (by kernel_rfl) (by kernel_rfl) (fun _ _ _ h => h) (Or.inl ⟨by rfl, fun wx hx => by go_simp⟩) hT0 ?_
    try dsimp only
    try simp only [Act.put, List.getElem_toArray, List.getElem_cons_succ, List.getElem_cons_zero, List.setIfInBounds_toArray, List.set_cons_zero, List.set_cons_succ]
    refine wpAnyH_take (i := 2) (v := (.pointer (some ⟨bw, 2, none⟩))) rfl (by kernel_rfl) (by kernel_rfl) (by kernel_rfl) (fun _ _ _ h => h) (Or.inl ⟨by rfl, fun wx hx => by go_simp⟩) hT0 ?_
    try dsimp only
    try simp only [Act.put, List.getElem_toArray, List.getElem_cons_succ, List.getElem_cons_zero, List.setIfInBounds_toArray, List.set_cons_zero, List.set_cons_succ]
    refine wpAnyH_take (i := 3) (v := (.slice (some ⟨gn, 0, none⟩) N cn)) rfl (by kernel_rfl) (by kernel_rfl) (by kernel_rfl) (fun _ _ _ h => h) (Or.inl ⟨by rfl, fun wx hx => by have hx1 := hx; go_simp⟩) hT0 ?_
    try dsimp only
    try simp only [Act.put, List.getElem_toArray, List.getElem_cons_succ, List.getElem_cons_zero, List.setIfInBounds_toArray, List.set_cons_zero, List.set_cons_succ]
    refine wpAnyH_take (i := 4) (v := (.int .i64 k)) rfl (by kernel_rfl) (by kernel_rfl) (by kernel_rfl) (fun _ _ _ h => h) (Or.inl ⟨by rfl, fun wx hx => by go_simp⟩) hT0 ?_
    try dsimp only
    try simp only [Act.put, List.getElem_toArray, List.getElem_cons_succ, List.getElem_cons_zero, List.setIfInBounds_toArray, List.set_cons_zero, List.set_cons_succ]
    refine wpAnyH_take (i := 5) (v := (.pointer (some ⟨bw, 0, none⟩))) rfl (by kernel_rfl) (by kernel_rfl) (by kernel_rfl) (fun _ _ _ h => h) (Or.inl ⟨by rfl, fun wx hx => by go_simp⟩) hT0 ?_
    try dsimp only
    try simp only [Act.put, List.getElem_toArray, List.getElem_cons_succ, List.getElem_cons_zero, List.setIfInBounds_toArray, List.set_cons_zero, List.set_cons_succ]
    refine wpAnyH_take (i := 6) (v := (.pointer (some ⟨bw, 0, none⟩))) rfl (by kernel_rfl) (by kernel_rfl) (by kernel_rfl) (fun _ _ _ h => h) (Or.inl ⟨by rfl, fun wx hx => by go_simp⟩) hT0 ?_
    try dsimp only
    try simp only [Act.put, List.getElem_toArray, List.getElem_cons_succ, List.getElem_cons_zero, List.setIfInBounds_toArray, List.set_cons_zero, List.set_cons_succ]
    refine wpAnyH_take (i := 7) (v := (.pointer (some ⟨bw, 2, none⟩))) rfl (by kernel_rfl) (by kernel_rfl) (by kernel_rfl) (fun _ _ _ h => h) (Or.inl ⟨by rfl, fun wx hx => by go_simp⟩) hT0 ?_
    try dsimp only
    try simp only [Act.put, List.getElem_toArray, List.getElem_cons_succ, List.getElem_cons_zero, List.setIfInBounds_toArray, List.set_cons_zero, List.set_cons_succ]
    refine wpAnyH_take (i := 8) (v := (.slice (some ⟨gn, 0, none⟩) N cn)) rfl (by kernel_rfl) (by kernel_rfl) (by kernel_rfl) (fun _ _ _ h => h) (Or.inl ⟨by rfl, fun wx hx => by have hx1 := hx; go_simp⟩) hT0 ?_
    try dsimp only
    try simp only [Act.put, List.getElem_toArray, List.getElem_cons_succ, List.getElem_cons_zero, List.setIfInBounds_toArray, List.set_cons_zero, List.set_cons_succ]
    refine wpAnyH_take (i := 9) (v := (.int .i64 k)) rfl (by kernel_rfl) (by kernel_rfl) (by kernel_rfl) (fun _ _ _ h => h) (Or.inl ⟨by rfl, fun wx hx => by go_simp⟩) hT0 ?_
    try dsimp only
    try simp only [Act.put, List.getElem_toArray, List.getElem_cons_succ, List.getElem_cons_zero, List.setIfInBounds_toArray, List.set_cons_zero, List.set_cons_succ]
    refine wpAnyH_take (i := 10) (v := (.pointer (some ⟨gn, k * 46, none⟩))) rfl (by kernel_rfl) (by kernel_rfl) (by kernel_rfl) (fun _ _ _ h => h) (Or.inl ⟨by rfl, fun wx hx => by go_simp⟩) hT0 ?_
    try dsimp only
    try simp only [Act.put, List.getElem_toArray, List.getElem_cons_succ, List.getElem_cons_zero, List.setIfInBounds_toArray, List.set_cons_zero, List.set_cons_succ]
    refine wpAnyH_take (i := 11) (v := (.pointer (some ⟨gn, k * 46 + 45, none⟩))) rfl (by kernel_rfl) (by kernel_rfl) (by kernel_rfl) (fun _ _ _ h => h) (Or.inl ⟨by rfl, fun wx hx => by go_simp⟩) hT0 ?_
    try dsimp only
    try simp only [Act.put, List.getElem_toArray, List.getElem_cons_succ, List.getElem_cons_zero, List.setIfInBounds_toArray, List.set_cons_zero, List.set_cons_succ]
    refine wpAnyH_all (rs := [12]) (by kernel_rfl) (by simp) ?_
    intro j hj
    simp only [List.mem_cons, List.not_mem_nil, or_false] at hj
    subst hj
    refine wpOp_of_wp rfl rfl (hideK ?_)
    intro K' hK'
    go_simp
    rw [hK'.out]
    refine ⟨hT0, ?_⟩
    try dsimp only
    try simp only [Act.put, List.getElem_toArray, List.getElem_cons_succ, List.getElem_cons_zero, List.setIfInBounds_toArray, List.set_cons_zero, List.set_cons_succ]
    refine wpAnyH_all (rs := [13]) (by kernel_rfl) (by simp) ?_
    intro j hj
    simp only [List.mem_cons, List.not_mem_nil, or_false] at hj
    subst hj
    refine wpOp_of_wp rfl rfl ?_
    go_simp
    refine (ritems_any IL IS.p IS.n IS.c w6.drew HIL.out.1 (by exact HIL.out.2.1) HIL.out.2.2).mono ?_
    rintro e w7 ⟨v7, rfl, hown7, hb7⟩
    replace hb7 : Below w6.heap.size w6 w7 := below_drawn' hb7
    replace hown7 : Own clIt w7 w6.heap.size 114 v7 IL := hown7
    have hT1 : (fun w' : World => w'.cell? ⟨bw, 2, none⟩ = some (.slice (some ⟨gn, 0, none⟩) N cn)) w7 := cell_keep hb7 c26
    refine ⟨hT1, ?_⟩
    try dsimp only
    try simp only [Act.put, List.getElem_toArray, List.getElem_cons_succ, List.getElem_cons_zero, List.setIfInBounds_toArray, List.set_cons_zero, List.set_cons_succ]
    refine wpAnyH_take (i := 14) (v := (.pointer (some ⟨gn, k * 46, none⟩))) rfl (by kernel_rfl) (by kernel_rfl) (by kernel_rfl) (fun _ _ _ h => h) (Or.inl ⟨by rfl, fun wx hx => by go_simp⟩) hT1 ?_
    try dsimp only
    try simp only [Act.put, List.getElem_toArray, List.getElem_cons_succ, List.getElem_cons_zero, List.setIfInBounds_toArray, List.set_cons_zero, List.set_cons_succ]
    refine wpAnyH_take (i := 15) (v := (.pointer (some ⟨gn, k * 46 + 44, none⟩))) rfl (by kernel_rfl) (by kernel_rfl) (by kernel_rfl) (fun _ _ _ h => h) (Or.inl ⟨by rfl, fun wx hx => by go_simp⟩) hT1 ?_
    try dsimp only
    try simp only [Act.put, List.getElem_toArray, List.getElem_cons_succ, List.getElem_cons_zero, List.setIfInBounds_toArray, List.set_cons_zero, List.set_cons_succ]
    refine wpAnyH_all (rs := [16]) (by kernel_rfl) (by simp) ?_
    intro j hj
    simp only [List.mem_cons, List.not_mem_nil, or_false] at hj
    subst hj
    obtain ⟨s7, rfl⟩ : ∃ s7 : Sl, v7 = .slice s7.p s7.n s7.c := by obtain ⟨p, c, e, _⟩ := hown7.form; exact ⟨⟨p, _, c⟩, e⟩
    obtain ⟨u, hu⟩ : ∃ u, w7.cell? ⟨gn, k * 46 + 44, none⟩ = some u := ⟨_, cell_keep hb7 c644⟩
    have fu : w7.frozen? ⟨gn, k * 46 + 44, none⟩ = false := by obtain ⟨cur, hcur⟩ := (HN6.out.below hb7).blk; exact frozen_of_row _ _ _ _ _ hcur
    refine wpOp_of_wp rfl rfl (hideK ?_)
    intro K' hK'
    go_simp
    rw [hK'.out]
    refine ⟨cell_set (by exact hbg) hT1, ?_⟩
    try dsimp only
    try simp only [Act.put, List.getElem_toArray, List.getElem_cons_succ, List.getElem_cons_zero, List.setIfInBounds_toArray, List.set_cons_zero, List.set_cons_succ]
    refine wpAnyH_done (by kernel_rfl) ?_ _
    have Z := crash_done HNN.out HW.out hB0 k c d hc hd s s7 HB5.out (by rw [← HEQ.out.2.1]; exact HOW.out) _ HE6.out (by have x := HN6.out; rw [HEQ.out.1] at x; exact x) hb7 (by rw [← HEQ.out.2.2.1]; exact hown7)
    clear hown7 hT0 hT1 hu fu hb7
    go_wp2
    go_ret
    obtain ⟨own', C', z1, z2, z3⟩ := Z
    exact ⟨by rw [HE.out]; rfl, own', C', by rw [HD.out]; exact z1, z2, z3⟩
  · have h1' : isNd t n = false := by simpa using h1
    have HE : Hid (ndE t n = 2) := by unfold Hid ndE; rw [if_neg h1]
    have HS : Hid (∃ own' C', WRep w own' B0 bw t wid (craD t D n) vt vn C' ∧ Same w own own' ∧ Fr own isWd w w) := ⟨own, C, by unfold craD; rw [if_neg h1]; exact h, Same.refl _ _, Fr.refl _ _ _⟩
    clear h hl
    go_enter Tryz.func29, Tryz.ntmps29
    go_wp2_with (go_at_call 54; refine (isNode_any _ _ _ _ t HT.out _).mono ?_; rintro e wA ⟨rfl, rfl⟩; rw [h1'])
    go_ret
    obtain ⟨own', C', z1, z2, z3⟩ := HS.out
    exact ⟨by rw [HE.out]; rfl, own', C', z1, z2, z3⟩
end Go.Proofs.YtpglbakcjihohaaGreat

/-! The document's IsTree, IsWidth and Begin. -/
namespace Go.Proofs.YtpglbakcjihohaaGreat
open Go.RowKit
set_option maxRecDepth 100000

def isTr (t : List Int) : Bool := decide (1 ≤ t.length) && decide (t.length ≤ 8) && decide (t.getD 0 0 = -1) && (List.range t.length).all fun i => decide (i = 0) || decide (0 ≤ t.getD i 0 ∧ t.getD i 0 < i)
theorem isTr_iff (t : List Int) : isTr t = true ↔ Tree t := by
  unfold isTr
  simp only [Bool.and_eq_true, decide_eq_true_eq, List.all_eq_true, List.mem_range, Bool.or_eq_true]
  constructor
  · rintro ⟨⟨⟨h1, h2⟩, h3⟩, h4⟩
    exact ⟨h1, h2, h3, fun i hi hl => (h4 i hl).resolve_left (by omega)⟩
  · rintro ⟨h1, h2, h3, h4⟩
    refine ⟨⟨⟨h1, h2⟩, h3⟩, fun i hl => ?_⟩
    by_cases e : i = 0
    · exact .inl e
    · exact .inr (h4 i (by omega) hl)
theorem isTr_yes {t : List Int} (h : Tree t) : isTr t = true := (isTr_iff t).2 h
theorem isTr_no {t : List Int} (h : ¬ Tree t) : isTr t = false := by
  cases e : isTr t with
  | false => rfl
  | true => exact absurd ((isTr_iff t).1 e) h
def isWid (x : Int) : Bool := decide (1 ≤ x ∧ x ≤ 1000)
theorem tree_get {t : List Int} {k : Nat} (hk : k < t.length) : t.getD k 0 = t[k] := by simp [List.getD, List.getElem?_eq_getElem hk]
set_option maxHeartbeats 1000000 in
theorem isTree_any (t : List Int) (p : Option Addr) (n c : Nat) (w : World) (hn : t.length = n) (hr : RowsAt clInt w p t) (hm : n ≤ 1000000000) :
    Calls Tryz.prog 17 #[.slice p n c] w fun e w' => e = .returned (.bool (isTr t)) ∧ w' = w := by
  by_cases h0 : n < 1
  · have HF : Hid (isTr t = false) := isTr_no fun h => by have := h.pos; omega
    go_enter Tryz.func17, Tryz.ntmps17
    go_wp2
    go_ret
    exact ⟨by rw [HF.out]; rfl, rfl⟩
  · by_cases h1 : 8 < n
    · have HF : Hid (isTr t = false) := isTr_no fun h => by have := h.le; omega
      go_enter Tryz.func17, Tryz.ntmps17
      go_wp2
      go_ret
      exact ⟨by rw [HF.out]; rfl, rfl⟩
    · obtain ⟨b, off, rfl, _, d0⟩ := hr.int_at (Below.refl _ _) 0 (by omega)
      rw [Nat.add_zero, ← tree_get (by omega)] at d0
      by_cases h2 : t.getD 0 0 = -1
      · have HR0 : Hid (t.getD 0 0 = -1) := h2
        rw [h2] at d0
        clear h2
        go_enter Tryz.func17, Tryz.ntmps17
        go_wp2
        go_loop [3] (fun i => ∃ k : Nat, 1 ≤ k ∧ k ≤ n ∧ i = .int .i64 k ∧ ∀ j, 1 ≤ j → j < k → 0 ≤ t.getD j 0 ∧ t.getD j 0 < j) (fun i => n - (intOf i).toNat)
        case atStart => exact ⟨1, by omega, by omega, rfl, fun j h1 h2 => by omega⟩
        case round =>
          obtain ⟨k, hk1, hk, rfl, hv⟩ := hrel
          have HV : Hid (∀ j, 1 ≤ j → j < k → 0 ≤ t.getD j 0 ∧ t.getD j 0 < j) := hv
          clear hv
          by_cases hlk : k < n
          · obtain ⟨b', off', e', _, dk⟩ := hr.int_at (Below.refl _ _) k (by omega)
            cases e'
            rw [← tree_get (by omega)] at dk
            obtain ⟨x, hx⟩ : ∃ x, t.getD k 0 = x := ⟨_, rfl⟩
            rw [hx] at dk
            have HX : Hid (t.getD k 0 = x) := hx
            clear hx
            by_cases x0 : x < 0
            · have HF : Hid (isTr t = false) := isTr_no fun h => by have := h.up k hk1 (by omega); rw [HX.out] at this; omega
              go_wp2
              go_ret
              exact ⟨by rw [HF.out]; rfl, rfl⟩
            · by_cases x1 : (k : Int) ≤ x
              · have HF : Hid (isTr t = false) := isTr_no fun h => by have := h.up k hk1 (by omega); rw [HX.out] at this; omega
                go_wp2
                go_ret
                exact ⟨by rw [HF.out]; rfl, rfl⟩
              · go_wp2
                go_round
                case rel =>
                  refine ⟨k + 1, by omega, by omega, by go_num, fun j h1 h2 => ?_⟩
                  by_cases e : j = k
                  · subst e; rw [HX.out]; omega
                  · exact HV.out j h1 (by omega)
                case measure => simp [intOf]; omega
          · obtain rfl : k = n := by omega
            have HF : Hid (isTr t = true) := isTr_yes ⟨by omega, by omega, HR0.out, fun i h1 h2 => HV.out i h1 (by omega)⟩
            go_wp2
            go_ret
            exact ⟨by rw [HF.out]; rfl, rfl⟩
      · have HF : Hid (isTr t = false) := isTr_no fun h => h2 h.root
        obtain ⟨x, hx⟩ : ∃ x, t.getD 0 0 = x := ⟨_, rfl⟩
        rw [hx] at d0 h2
        clear hx
        have hb1 : (x == -1) = false := by simp [h2]
        have hb2 : (x != -1) = true := by simp [h2]
        have hn1 : decide ((n : Int) < 1) = false := decide_eq_false (by omega)
        have hn2 : decide (8 < (n : Int)) = false := decide_eq_false (by omega)
        go_enter Tryz.func17, Tryz.ntmps17
        go_wp2
        go_ret
        exact ⟨by rw [HF.out]; rfl, rfl⟩
set_option maxHeartbeats 400000 in
theorem isWidth_any (x : Int) (w : World) : Calls Tryz.prog 18 #[.int .i64 x] w fun e w' => e = .returned (.bool (isWid x)) ∧ w' = w := by
  by_cases h0 : 1 ≤ x
  · by_cases h1 : x ≤ 1000
    · have HF : Hid (isWid x = true) := by unfold Hid isWid; simp [h0, h1]
      go_enter Tryz.func18, Tryz.ntmps18
      go_wp2
      go_ret
      exact ⟨by rw [HF.out]; rfl, rfl⟩
    · have HF : Hid (isWid x = false) := by unfold Hid isWid; simp [h1]
      go_enter Tryz.func18, Tryz.ntmps18
      go_wp2
      go_ret
      exact ⟨by rw [HF.out]; rfl, rfl⟩
  · have HF : Hid (isWid x = false) := by unfold Hid isWid; simp [h0]
    go_enter Tryz.func18, Tryz.ntmps18
    go_wp2
    go_ret
    exact ⟨by rw [HF.out]; rfl, rfl⟩
end Go.Proofs.YtpglbakcjihohaaGreat

/-! The document's Begin: a store with no items, for every tree and width. -/
namespace Go.Proofs.YtpglbakcjihohaaGreat
open Go.RowKit
set_option maxRecDepth 100000

def NdC.zero : NdC := ⟨LfC.zero, LfC.zero, ⟨none, 0, 0⟩, ⟨none, 0, 0⟩⟩
def Nd.zero : Nd := ⟨[], fun _ => false, 0, [], fun _ => false, 0, [], []⟩
theorem zeros_nd : ((Tryz.prog.info? 98).bind (·.zero)).map (·.cells.toList) = some (clNd.cells NdC.zero) := by kernel_rfl
theorem begin_done {w w2 w3 : World} {own : Ghost} {B0 : Nat} {t : List Int} {wid : Int} (hT : Tree t) (h0 : 1 ≤ wid) (h1 : wid ≤ 1000) (hB : B0 ≤ w.heap.size) {g1 c1 : Nat}
    (o2 : Own clInt w2 w.heap.size 3 (.slice (some ⟨g1, 0, none⟩) t.length c1) t) (hg1 : g1 = w.heap.size + 1) (b2 : Below w.heap.size w w2) (m2 : w2.heap[w.heap.size]? = some (.cells #[.slice none 0 0, .int .i64 wid, .slice none 0 0] 75))
    (s2 : w.heap.size + 1 < w2.heap.size)
    (o3 : Own clNd w3 w.heap.size 98 (.slice (some ⟨w2.heap.size, 0, none⟩) t.length t.length) (List.replicate t.length NdC.zero)) (g3 : (w2.setCell ⟨w.heap.size, 0, none⟩ (.slice (some ⟨g1, 0, none⟩) t.length c1)).grownBy w3 none) :
    ∃ own' vt vn C, WRep (w3.setCell ⟨w.heap.size, 2, none⟩ (.slice (some ⟨w2.heap.size, 0, none⟩) t.length t.length)) own' B0 w.heap.size t wid (List.replicate t.length Nd.zero) vt vn C ∧ Same w own own' ∧ Below w.heap.size w (w3.setCell ⟨w.heap.size, 2, none⟩ (.slice (some ⟨w2.heap.size, 0, none⟩) t.length t.length)) := by
  let own' : Ghost := fun j => if j = w.heap.size then .wd 0 else if j = g1 then .wd 1 else if j = w2.heap.size then .wd 2 else own j
  have same : Same w own own' := fun j hj _ => by
    simp only [own']
    rw [if_neg (by omega), if_neg (by omega), if_neg (by omega)]
  have m2' : (w2.setCell ⟨w.heap.size, 0, none⟩ (.slice (some ⟨g1, 0, none⟩) t.length c1)).heap[w.heap.size]? = some (.cells #[.slice (some ⟨g1, 0, none⟩) t.length c1, .int .i64 wid, .slice none 0 0] 75) := by
    rw [heap_setCell_same _ _ _ _ _ _ m2]; rfl
  have m3 : w3.heap[w.heap.size]? = some (.cells #[.slice (some ⟨g1, 0, none⟩) t.length c1, .int .i64 wid, .slice none 0 0] 75) := by
    rw [g3.block _ (by simp; omega) (by simp)]; exact m2'
  have m4 : (w3.setCell ⟨w.heap.size, 2, none⟩ (.slice (some ⟨w2.heap.size, 0, none⟩) t.length t.length)).heap[w.heap.size]? = some (.cells #[.slice (some ⟨g1, 0, none⟩) t.length c1, .int .i64 wid, .slice (some ⟨w2.heap.size, 0, none⟩) t.length t.length] 75) := by
    rw [heap_setCell_same _ _ _ _ _ _ m3]; rfl
  have b3 : Below w.heap.size w w3 := by
    have hb : Below w.heap.size w (w2.setCell ⟨w.heap.size, 0, none⟩ (.slice (some ⟨g1, 0, none⟩) t.length c1)) := b2.setCell (by show w.heap.size ≤ w.heap.size; omega) _
    exact hb.trans (grown_below g3 _ hb.size (fun _ h => by cases h))
  have ot : Own clInt (w3.setCell ⟨w.heap.size, 2, none⟩ (.slice (some ⟨w2.heap.size, 0, none⟩) t.length t.length)) w.heap.size 3 (.slice (some ⟨g1, 0, none⟩) t.length c1) t := o2.chg fun j hj => by
    obtain rfl : g1 = j := by simpa [Value.ownBlock] using hj
    rw [heap_setCell_other _ _ _ _ (by show g1 ≠ w.heap.size; omega), g3.block g1 (by simp; omega) (by simp), heap_setCell_other _ _ _ _ (by show g1 ≠ w.heap.size; omega)]
  have on : Own clNd (w3.setCell ⟨w.heap.size, 2, none⟩ (.slice (some ⟨w2.heap.size, 0, none⟩) t.length t.length)) w.heap.size 98 (.slice (some ⟨w2.heap.size, 0, none⟩) t.length t.length) (List.replicate t.length NdC.zero) := o3.chg fun j hj => by
    obtain rfl : w2.heap.size = j := by simpa [Value.ownBlock] using hj
    exact heap_setCell_other _ _ _ _ (by show w2.heap.size ≠ w.heap.size; omega)
  refine ⟨own', ⟨some ⟨g1, 0, none⟩, t.length, c1⟩, ⟨some ⟨w2.heap.size, 0, none⟩, t.length, t.length⟩, List.replicate t.length NdC.zero, ⟨hT, h0, h1, m4, if_pos rfl, hB, ot.mono hB, ?_, on.mono hB, ?_, by simp, by simp, ?_, ?_⟩, same, b3.setCell (by show w.heap.size ≤ w.heap.size; omega) _⟩
  · intro j hj
    obtain rfl : g1 = j := by simpa [Sl.val, Value.ownBlock] using hj
    simp only [own']
    rw [if_neg (by omega)]; simp
  · intro j hj
    obtain rfl : w2.heap.size = j := by simpa [Sl.val, Value.ownBlock] using hj
    simp only [own']
    rw [if_neg (by omega), if_neg (by omega)]; simp
  · intro n c d hc hd
    rw [List.getElem?_replicate] at hc hd
    split at hc
    · rename_i hn
      rw [if_pos hn] at hd
      cases hc; cases hd
      refine ⟨rfl, rfl, rfl, rfl, Own.nil _ _ _, Own.nil _ _ _, Own.nil _ _ _, Own.nil _ _ _, ?_, ?_, ?_, ?_⟩ <;> (intro j hj; cases hj)
    · cases hc
  · intro n d hd
    rw [List.getElem?_replicate] at hd
    split at hd
    · cases hd
      exact ⟨(fun i e h => by simp [Nd.zero] at h), (fun i e h => by simp [Nd.zero] at h), ⟨by decide, by decide⟩, ⟨by decide, by decide⟩, (fun i e h => by simp [Nd.zero] at h), (fun i e h => by simp [Nd.zero] at h), by decide, by decide⟩
    · cases hd
theorem begin_app {w w2 : World} {X : Array Value} {gb n cb : Nat} {te : TypeId} (g : (w.alloc (.cells X te)).grownBy w2 (Value.ownBlock (.slice none 0 0))) (t1 : Value.ownBlock (.slice (some ⟨gb, 0, none⟩) n cb) = Value.ownBlock (.slice none 0 0) ∨ Value.ownBlock (.slice (some ⟨gb, 0, none⟩) n cb) = some (w.alloc (.cells X te)).heap.size ∧ (w.alloc (.cells X te)).grownBy w2 none) :
    w2.heap[w.heap.size]? = some (.cells X te) ∧ Below w.heap.size w w2 ∧ w.heap.size < w2.heap.size ∧ gb = w.heap.size + 1 := by
  have h1 := below_alloc w (.cells X te)
  have hs := g.size
  refine ⟨?_, h1.trans (grown_below g _ h1.size (fun _ h => by cases h)), by simp at hs; omega, ?_⟩
  · rw [g.block _ (by simp) (by simp [Value.ownBlock])]; exact heap_alloc_new _ _
  · rcases t1 with h | ⟨h, _⟩
    · cases h
    · simpa [Value.ownBlock] using h
theorem begin_mk {w w2 w3 : World} {a b c v : Value} {te : TypeId} (m2 : w2.heap[w.heap.size]? = some (.cells #[a, b, c] te)) (g : (w2.setCell ⟨w.heap.size, 0, none⟩ v).grownBy w3 none) (s : w.heap.size < w2.heap.size) : w3.heap[w.heap.size]? = some (.cells #[v, b, c] te) := by
  rw [g.block _ (by simpa using s) (by simp), heap_setCell_same _ _ _ _ _ _ m2]; rfl
set_option maxHeartbeats 2000000 in
theorem begin_any (t : List Int) (hT : Tree t) (wid : Int) (h0 : 1 ≤ wid) (h1 : wid ≤ 1000) (p : Option Addr) (n c : Nat) (w : World) (own : Ghost) (B0 : Nat) (hB : B0 ≤ w.heap.size) (hn : t.length = n) (hr : RowsAt clInt w p t) :
    Calls Tryz.prog 20 #[.slice p n c, .int .i64 wid] w fun e w' => e = .returned (.pointer (some ⟨w.heap.size, 0, none⟩)) ∧ ∃ own' vt vn C, WRep w' own' B0 w.heap.size t wid (List.replicate t.length Nd.zero) vt vn C ∧ Same w own own' ∧ Below w.heap.size w w' := by
  have h8 := hT.le
  have hp := hT.pos
  have HT : Hid (Tree t) := hT
  have HR : Hid (RowsAt clInt w p t) := hr
  rw [hn] at h8 hp
  clear hT hr
  go_enter Tryz.func20, Tryz.ntmps20
  go_wp2_with (first | (at_builtin; refine wpList_append_cl rfl _ _ _ _ 8 rfl slInt (w.heap.size) (.slice none 0 0) ([] : List Int) rfl (Own.nil _ _ _) p n c t rfl hn (HR.out.below (by exact below_alloc _ _)) (by omega) (by simp only [maxLen, List.length_nil]; omega) (by simp only [List.length_nil]; omega) (by simp) ?_; intro v1 w2 o1 _ g1 t1 f1; obtain ⟨gb, cb, e1⟩ := f1; subst e1; have BG := begin_app g1 t1; obtain ⟨m2, b2, s2, q2⟩ := BG; have c0 : w2.cell? ⟨w.heap.size, 0, none⟩ = some (.slice none 0 0) := (by rw [cell_of_row _ _ _ _ _ _ m2]; rfl); have f0 : w2.frozen? ⟨w.heap.size, 0, none⟩ = false := frozen_of_row _ _ _ _ _ m2; have HM2 : Hid _ := m2; have HB2 : Hid (Below w.heap.size w w2) := b2; have HO1 : Hid (Own clInt w2 w.heap.size 3 (.slice (some ⟨gb, 0, none⟩) n cb) t) := (by unfold Hid; rw [← hn]; exact o1); have HQ2 : Hid (gb = w.heap.size + 1) := q2; clear o1 g1 t1 m2 b2 q2) | (refine wpList_make_cl rfl _ _ _ _ 160 slNd rfl NdC.zero zeros_nd (w.heap.size) n _ rfl rfl rfl (by simp only [maxLen]; omega) (by omega) (by simp; omega) ?_; intro w3 o3 g3; have m3 := begin_mk HM2.out g3 s2; have c3 : w3.cell? ⟨w.heap.size, 2, none⟩ = some (.slice none 0 0) := (by rw [cell_of_row _ _ _ _ _ _ m3]; rfl); have f3 : w3.frozen? ⟨w.heap.size, 2, none⟩ = false := frozen_of_row _ _ _ _ _ m3; have HO3 : Hid _ := o3; have HG3 : Hid _ := g3; clear o3 g3 m3))
  go_ret
  subst hn
  have o3 : Own clNd w3 w.heap.size 98 (.slice (some ⟨w2.heap.size, 0, none⟩) t.length t.length) (List.replicate t.length NdC.zero) := by
    have x := HO3.out
    have e : (w2.setCell ⟨w.heap.size, 0, none⟩ (.slice (some ⟨gb, 0, none⟩) t.length cb)).heap.size = w2.heap.size := by simp
    rw [e] at x
    exact x
  have s3 : w.heap.size + 1 < w2.heap.size := by have := (HO1.out.lt gb rfl).2; rw [HQ2.out] at this; exact this
  obtain ⟨own', vt, vn, C, z1, z2, z3⟩ := begin_done (own := own) HT.out h0 h1 hB HO1.out HQ2.out HB2.out HM2.out s3 o3 HG3.out
  first | exact ⟨rfl, own', vt, vn, C, z1, z2, z3⟩ | exact ⟨rfl, own', ⟨vt, vn, C, z1⟩, z2, z3⟩
end Go.Proofs.YtpglbakcjihohaaGreat

/-! 'ahead' and 'newer', for every two items. -/
namespace Go.Proofs.YtpglbakcjihohaaGreat
open Go.RowKit
set_option maxRecDepth 100000

def ahd (x y : It) : Bool := decide (x.leaf < y.leaf ∨ x.leaf = y.leaf ∧ x.win < y.win)
def nwr (x y : It) : Bool := decide (y.ver < x.ver) || (decide (x.ver = y.ver) && x.fin && !y.fin)
set_option maxHeartbeats 1000000 in
theorem ahead_any (x y : It) (A B : Array Value) (hA : IsIt A x) (hB : IsIt B y) (w : World) :
    Calls Tryz.prog 98 #[.agg A, .agg B] w fun e w' => e = .returned (.bool (ahd x y)) ∧ Below w.heap.size w w' := by
  have a0 := hA.get0
  have a1 := hA.get1
  have b0 := hB.get0
  have b1 := hB.get1
  obtain ⟨xl, xw, xv, xf, xs⟩ := x
  obtain ⟨yl, yw, yv, yf, ys⟩ := y
  clear hA hB
  by_cases h1 : xl < yl
  · have HE : Hid (ahd ⟨xl, xw, xv, xf, xs⟩ ⟨yl, yw, yv, yf, ys⟩ = true) := by unfold Hid ahd; exact decide_eq_true (.inl h1)
    go_enter Tryz.func98, Tryz.ntmps98
    go_wp2
    go_ret
    exact ⟨by rw [HE.out]; rfl, below_alloc2 _ _ _⟩
  · by_cases h2 : xl = yl
    · by_cases h3 : xw < yw
      · have HE : Hid (ahd ⟨xl, xw, xv, xf, xs⟩ ⟨yl, yw, yv, yf, ys⟩ = true) := by unfold Hid ahd; exact decide_eq_true (.inr ⟨h2, h3⟩)
        subst h2
        go_enter Tryz.func98, Tryz.ntmps98
        go_wp2
        go_ret
        exact ⟨by rw [HE.out]; rfl, below_alloc2 _ _ _⟩
      · have HE : Hid (ahd ⟨xl, xw, xv, xf, xs⟩ ⟨yl, yw, yv, yf, ys⟩ = false) := by unfold Hid ahd; exact decide_eq_false (by rintro (h | h); exact h1 h; exact h3 h.2)
        subst h2
        go_enter Tryz.func98, Tryz.ntmps98
        go_wp2
        go_ret
        exact ⟨by rw [HE.out]; rfl, below_alloc2 _ _ _⟩
    · have HE : Hid (ahd ⟨xl, xw, xv, xf, xs⟩ ⟨yl, yw, yv, yf, ys⟩ = false) := by unfold Hid ahd; exact decide_eq_false (by rintro (h | h); exact h1 h; exact h2 h.1)
      have hb : (xl == yl) = false := by simp [h2]
      go_enter Tryz.func98, Tryz.ntmps98
      go_wp2
      go_ret
      exact ⟨by rw [HE.out]; rfl, below_alloc2 _ _ _⟩
set_option maxHeartbeats 1000000 in
theorem newer_any (x y : It) (A B : Array Value) (hA : IsIt A x) (hB : IsIt B y) (w : World) :
    Calls Tryz.prog 99 #[.agg A, .agg B] w fun e w' => e = .returned (.bool (nwr x y)) ∧ Below w.heap.size w w' := by
  have a2 := hA.get2
  have a3 := hA.get3
  have b2 := hB.get2
  have b3 := hB.get3
  obtain ⟨xl, xw, xv, xf, xs⟩ := x
  obtain ⟨yl, yw, yv, yf, ys⟩ := y
  clear hA hB
  by_cases h1 : yv < xv
  · have HE : Hid (nwr ⟨xl, xw, xv, xf, xs⟩ ⟨yl, yw, yv, yf, ys⟩ = true) := by unfold Hid nwr; simp [h1]
    go_enter Tryz.func99, Tryz.ntmps99
    go_wp2
    go_ret
    exact ⟨by rw [HE.out]; rfl, below_alloc2 _ _ _⟩
  · by_cases h2 : xv = yv
    · subst h2
      cases xf with
      | true =>
        cases yf with
        | true =>
          have HE : Hid (nwr ⟨xl, xw, xv, true, xs⟩ ⟨yl, yw, xv, true, ys⟩ = false) := by unfold Hid nwr; simp
          go_enter Tryz.func99, Tryz.ntmps99
          go_wp2
          go_ret
          exact ⟨by rw [HE.out]; rfl, below_alloc2 _ _ _⟩
        | false =>
          have HE : Hid (nwr ⟨xl, xw, xv, true, xs⟩ ⟨yl, yw, xv, false, ys⟩ = true) := by unfold Hid nwr; simp
          go_enter Tryz.func99, Tryz.ntmps99
          go_wp2
          go_ret
          exact ⟨by rw [HE.out]; rfl, below_alloc2 _ _ _⟩
      | false =>
        have HE : Hid (nwr ⟨xl, xw, xv, false, xs⟩ ⟨yl, yw, xv, yf, ys⟩ = false) := by unfold Hid nwr; simp
        go_enter Tryz.func99, Tryz.ntmps99
        go_wp2
        go_ret
        exact ⟨by rw [HE.out]; rfl, below_alloc2 _ _ _⟩
    · have HE : Hid (nwr ⟨xl, xw, xv, xf, xs⟩ ⟨yl, yw, yv, yf, ys⟩ = false) := by unfold Hid nwr; simp [h1, h2]
      have hb : (xv == yv) = false := by simp [h2]
      go_enter Tryz.func99, Tryz.ntmps99
      go_wp2
      go_ret
      exact ⟨by rw [HE.out]; rfl, below_alloc2 _ _ _⟩
end Go.Proofs.YtpglbakcjihohaaGreat

/-! 'joined': the items with one more, for every list and item. -/
namespace Go.Proofs.YtpglbakcjihohaaGreat
open Go.RowKit
set_option maxRecDepth 100000

/-- One step over the old items: what was laid out, and whether the item stands there. -/
def jst (x : It) (s : List It × Bool) (y : It) : List It × Bool :=
  ((if (ahd x y && !s.2) = true then s.1 ++ [x] else s.1) ++ [if y.leaf = x.leaf ∧ y.win = x.win then (if nwr x y = true then x else y) else y],
   s.2 || ahd x y || decide (y.leaf = x.leaf ∧ y.win = x.win))
def jgo (x : It) (l : List It) : List It × Bool := l.foldl (jst x) ([], false)
def jnd (l : List It) (x : It) : List It := if (jgo x l).2 = true then (jgo x l).1 else (jgo x l).1 ++ [x]
theorem jgo_take (x : It) (l : List It) (k : Nat) (y : It) (h : l[k]? = some y) : jgo x (l.take (k + 1)) = jst x (jgo x (l.take k)) y := by
  unfold jgo; rw [List.take_add_one, h]; simp
theorem jgo_len (x : It) (l : List It) : (jgo x l).1.length ≤ l.length + (jgo x l).2.toNat := by
  suffices H : ∀ (l : List It) (s : List It × Bool) (m : Nat), s.1.length ≤ m + s.2.toNat → (l.foldl (jst x) s).1.length ≤ m + l.length + (l.foldl (jst x) s).2.toNat by
    have := H l ([], false) 0 (by simp); simpa [jgo] using this
  intro l
  induction l with
  | nil => intro s m h; simpa using h
  | cons y l ih =>
    intro s m h
    have := ih (jst x s y) (m + 1) (by
      obtain ⟨o, b⟩ := s
      simp only [jst]
      cases b <;> cases ahd x y <;> by_cases hk : y.leaf = x.leaf ∧ y.win = x.win <;> simp [hk] at h ⊢ <;> omega)
    simp only [List.foldl_cons, List.length_cons]
    rw [show m + (l.length + 1) = m + 1 + l.length by omega]
    exact this
/-- What 'joined' has in memory: the item, boxed; the old items; the new ones. -/
structure JW (w wr : World) (X : Array Value) (p : Option Addr) (l : List It) (v : Value) (o : List It) : Prop where
  below : Below w.heap.size w wr
  x : wr.heap[w.heap.size]? = some (.cells X 114)
  rows : RowsAt clIt wr p l
  own : Own clIt wr (w.heap.size + 1) 114 v o
theorem JW.next {w wr w' : World} {X : Array Value} {p : Option Addr} {l o : List It} {v : Value} (h : JW w wr X p l v o) (hb : Below wr.heap.size wr w') : JW w w' X p l v o :=
  ⟨bnext h.below hb, keep hb h.x, h.rows.below hb, h.own.below hb⟩
theorem JW.row {w wr : World} {X Y : Array Value} {p : Option Addr} {l o : List It} {v : Value} (h : JW w wr X p l v o) (hp : RowsAt clIt w p l) (g : Nat) (hg : w.heap.size < g) (hv : v.ownBlock ≠ some g) : JW w (wr.setRow g Y) X p l v o := by
  have hb := below_setRow (w := w) Y h.below (Nat.le_of_lt hg)
  exact ⟨hb, setRow_oth (by omega) h.x, hp.below hb, h.own.chg fun j hj => setRow_other _ _ _ _ (fun e => hv (by rw [hj, e]))⟩
theorem JW.app {w wr w' : World} {X : Array Value} {p : Option Addr} {l o o' : List It} {v v' : Value} (h : JW w wr X p l v o) (hp : RowsAt clIt w p l) (ho : Own clIt w' (w.heap.size + 1) 114 v' o') (hg : wr.grownBy w' v.ownBlock) : JW w w' X p l v' o' := by
  have hb : Below w.heap.size w w' := h.below.trans (grown_below hg _ h.below.size (fun k hk => by have := (h.own.lt k hk).1; omega))
  exact ⟨hb, by rw [hg.block _ (lt_of_blk h.x) (fun e => by have := (h.own.lt _ e.symm).1; omega)]; exact h.x, hp.below hb, ho⟩
theorem join_far {w1 w2 : World} {gy : Nat} {Y : Array Value} {t : TypeId} {o : Obj} {v v1 : Value} (hg : w1.heap[gy]? = some (.cells Y t)) (hv : v.ownBlock ≠ some gy) (t1 : v1.ownBlock = v.ownBlock ∨ v1.ownBlock = some (w1.alloc o).heap.size ∧ (w1.alloc o).grownBy w2 none) : v1.ownBlock ≠ some gy := fun e => by
  rcases t1 with h | ⟨h, _⟩
  · rw [h] at e; exact hv e
  · rw [h] at e; have := Option.some.inj e; have := lt_of_blk hg; simp at *; omega
set_option maxHeartbeats 4000000 in
theorem joined_any (x : It) (X : Array Value) (hX : IsIt X x) (l : List It) (p : Option Addr) (n c : Nat) (w : World) (hn : l.length = n) (hr : RowsAt clIt w p l) (hm : n ≤ 1000000) :
    Calls Tryz.prog 86 #[.slice p n c, .agg X] w fun e w' => ∃ v, e = .returned v ∧ Own clIt w' w.heap.size 114 v (jnd l x) ∧ Below w.heap.size w w' := by
  have HX : Hid (IsIt X x) := hX
  have HP : Hid (RowsAt clIt w p l) := hr
  clear hX hr
  go_enter Tryz.func86, Tryz.ntmps86
  go_wp2
  go_loopw [5, 6, 7] (fun v5 b6 i wr => ∃ (k : Nat) (b : Bool), k ≤ n ∧ i = .int .i64 k ∧ b6 = .bool b ∧ (jgo x (l.take k)).2 = b ∧ JW w wr X p l v5 (jgo x (l.take k)).1) (fun _ _ i _ => n - (intOf i).toNat)
  case atStart => exact ⟨0, false, by omega, rfl, rfl, rfl, ⟨below_alloc _ _, heap_alloc_new _ _, HP.out.below (below_alloc _ _), Own.nil _ _ _⟩⟩
  case round =>
    obtain ⟨k, b, hk, rfl, rfl, hb, jw0⟩ := hrel
    have HB : Hid ((jgo x (l.take k)).2 = b) := hb
    have jw : Hid (JW w wr X p l u5 (jgo x (l.take k)).1) := jw0
    have hol : (jgo x (l.take k)).1.length ≤ 1000001 := by
      have := jgo_len x (l.take k)
      have h2 : (l.take k).length ≤ n := by simp; omega
      have h3 : (jgo x (l.take k)).2.toNat ≤ 1 := Bool.toNat_le _
      omega
    obtain ⟨o, ho⟩ : ∃ o, o = (jgo x (l.take k)).1 := ⟨_, rfl⟩
    rw [← ho] at jw hol
    have HO : Hid (o = (jgo x (l.take k)).1) := ho
    clear hb jw0 ho
    by_cases hlk : k < n
    · obtain ⟨y, hy⟩ : ∃ y, l[k]? = some y := ⟨_, List.getElem?_eq_getElem (by omega)⟩
      obtain ⟨b0, off, rfl, hlt, hcx⟩ := jw.out.rows.pos k (by omega)
      have rg : Hid (wr.rangeAt b0 (off + k * 32) y.cells) := hcx k y hy
      have HS : Hid (jgo x (l.take (k + 1)) = jst x (o, b) y) := by unfold Hid; rw [jgo_take x l k y hy, HO.out, ← HB.out]
      obtain ⟨av, hav⟩ : ∃ av, ahd x y = av := ⟨_, rfl⟩
      clear hcx hy
      go_wp2_with (first | (refine load_it_mid rfl _ rfl _ _ rfl y (by exact rg.out) ?_; intro Y hY0; have HY : Hid (IsIt Y y) := hY0; clear hY0) | (refine alloc_it rfl rfl ?_; intro Z hZ0; have hZ : Hid (IsIt Z It.zero) := hZ0; clear hZ0) | (refine store_it_new rfl _ _ rfl Y _ _ rfl rfl (by simp) HY.out (by exact hZ.out) ?_) | (refine load_it rfl _ rfl _ rfl X _ HX.out (by exact blk_old jw.out.x) ?_) | (refine load_it rfl _ rfl _ rfl Y _ HY.out (by exact heap_alloc_new _ _) ?_))
      refine (ahead_any x y X Y HX.out HY.out _).mono ?_
      rintro e w1 ⟨rfl, hb1⟩
      rw [hav]
      have jw1 : Hid (JW w w1 X (some ⟨b0, off, none⟩) l u5 o) := (jw.out.next (below_alloc _ _)).next hb1
      obtain ⟨gy, hgy⟩ : ∃ gy, gy = wr.heap.size := ⟨_, rfl⟩
      have gY : Hid (w1.heap[gy]? = some (.cells Y 114)) := by unfold Hid; rw [hgy]; exact keep hb1 (heap_alloc_new wr _)
      have hv : Hid (u5.ownBlock ≠ some gy) := fun e => by have := (jw.out.own.lt _ e).2; omega
      have hgw : w.heap.size < gy := by have := lt_of_blk jw.out.x; omega
      rw [← hgy]
      clear hgy jw hb1 rg hlt
      have jw := jw1
      clear jw1
      go_upto_region 8 with fail
      go_cut [28] (fun s wx => s = .bool (av && !b) ∧ wx = w1)
      case first =>
        cases av <;> cases b
        all_goals (go_wp2_with fail; go_meet; exact ⟨rfl, rfl⟩)
      case rest =>
        obtain ⟨rfl, rfl⟩ := hcut
        rename World => w1
        go_upto_if 28 with fail
        go_cut [5, 6] (fun v b6 wx => ∃ (o2 : List It) (b2 : Bool), b6 = .bool b2 ∧ o2 = (if (av && !b) = true then o ++ [x] else o) ∧ b2 = (b || av) ∧ JW w wx X (some ⟨b0, off, none⟩) l v o2 ∧ wx.heap[gy]? = some (.cells Y 114) ∧ v.ownBlock ≠ some gy)
        case first =>
          cases av <;> cases b
          · go_wp2_with fail
            go_meet
            exact ⟨o, false, rfl, by simp, rfl, jw.out, gY.out, hv.out⟩
          · go_wp2_with fail
            go_meet
            exact ⟨o, true, rfl, by simp, rfl, jw.out, gY.out, hv.out⟩
          · go_wp2_with (first | (refine load_it rfl _ rfl _ rfl X _ HX.out (by exact jw.out.x) ?_) | (refine load_it rfl _ rfl _ rfl Y _ HY.out (by exact gY.out) ?_) | (refine build1_it rfl _ rfl X _ HX.out rfl ?_; intro R1) | (refine build1_it rfl _ rfl Y _ HY.out rfl ?_; intro R1) | (at_builtin; refine append_it rfl _ _ rfl (w.heap.size + 1) _ _ rfl (by exact (jw.out.next (below_alloc _ _)).own) _ 1 _ _ rfl rfl R1 (by omega) (by omega) (by have := lt_of_blk jw.out.x; simp; omega) ?_; intro v1 w2 o1 _ g1 t1 _; have J2 : Hid (JW w w2 X (some ⟨b0, off, none⟩) l v1 (o ++ [x])) := (jw.out.next (below_alloc _ _)).app HP.out o1 g1; have G2 : Hid (w2.heap[gy]? = some (.cells Y 114)) := (by unfold Hid; rw [g1.block gy (by have := lt_of_blk gY.out; simp; omega) (fun e => hv.out e.symm)]; exact blk_old gY.out); have V2 : Hid (v1.ownBlock ≠ some gy) := join_far gY.out hv.out t1; clear o1 g1 t1 R1))
            go_meet
            exact ⟨o ++ [x], true, rfl, by simp, rfl, J2.out, G2.out, V2.out⟩
          · go_wp2_with fail
            go_meet
            exact ⟨o, true, rfl, by simp, rfl, jw.out, gY.out, hv.out⟩
        case rest =>
          clear jw gY hv
          obtain ⟨o2, b2, rfl, ho2, hb2, jw0, gY0, hv0⟩ := hcut
          have hol2 : o2.length ≤ 1000002 := by
            rw [ho2]; split
            · simp; omega
            · omega
          have HO2 : Hid (o2 = (if (av && !b) = true then o ++ [x] else o)) := ho2
          have HB2 : Hid (b2 = (b || av)) := hb2
          have jw : Hid (JW w wc X (some ⟨b0, off, none⟩) l u5 o2) := jw0
          have gY : Hid (wc.heap[gy]? = some (.cells Y 114)) := gY0
          have hv : Hid (u5.ownBlock ≠ some gy) := hv0
          have HAV : Hid (ahd x y = av) := hav
          have cx0 : wc.cell? ⟨w.heap.size, 0, none⟩ = some (.int .i64 x.leaf) := by rw [cell_of_row _ _ _ _ _ _ jw0.x]; exact HX.out.get0
          have cx1 : wc.cell? ⟨w.heap.size, 1, none⟩ = some (.int .i64 x.win) := by rw [cell_of_row _ _ _ _ _ _ jw0.x]; exact HX.out.get1
          have cy0 : wc.cell? ⟨gy, 0, none⟩ = some (.int .i64 y.leaf) := by rw [cell_of_row _ _ _ _ _ _ gY0]; exact HY.out.get0
          have cy1 : wc.cell? ⟨gy, 1, none⟩ = some (.int .i64 y.win) := by rw [cell_of_row _ _ _ _ _ _ gY0]; exact HY.out.get1
          clear ho2 hb2 jw0 gY0 hv0 hav
          obtain ⟨xl, hxl⟩ : ∃ a, x.leaf = a := ⟨_, rfl⟩
          obtain ⟨xw, hxw⟩ : ∃ a, x.win = a := ⟨_, rfl⟩
          obtain ⟨yl, hyl⟩ : ∃ a, y.leaf = a := ⟨_, rfl⟩
          obtain ⟨yw, hyw⟩ : ∃ a, y.win = a := ⟨_, rfl⟩
          rw [hxl] at cx0
          rw [hxw] at cx1
          rw [hyl] at cy0
          rw [hyw] at cy1
          have HKEY : Hid ((y.leaf = x.leaf ∧ y.win = x.win) ↔ (yl = xl ∧ yw = xw)) := by unfold Hid; rw [hxl, hxw, hyl, hyw]
          clear hxl hxw hyl hyw
          by_cases e1 : yl = xl
          · by_cases e2 : yw = xw
            · have HYES : Hid (y.leaf = x.leaf ∧ y.win = x.win) := HKEY.out.2 ⟨e1, e2⟩
              subst e1 e2
              obtain ⟨nv, hnv⟩ : ∃ nv, nwr x y = nv := ⟨_, rfl⟩
              go_wp2_with (first | (refine load_it rfl _ rfl _ rfl X _ HX.out (by exact jw.out.x) ?_) | (refine load_it rfl _ rfl _ rfl Y _ HY.out (by exact gY.out) ?_))
              refine (newer_any x y X Y HX.out HY.out _).mono ?_
              rintro e w3 ⟨rfl, hb3⟩
              rw [hnv]
              have jw3 : Hid (JW w w3 X (some ⟨b0, off, none⟩) l u5 o2) := jw.out.next hb3
              have gY3 : Hid (w3.heap[gy]? = some (.cells Y 114)) := keep hb3 gY.out
              clear jw gY hb3 cx0 cx1 cy0 cy1
              have jw := jw3
              have gY := gY3
              clear jw3 gY3
              have HNV : Hid (nwr x y = nv) := hnv
              clear hnv
              cases nv with
              | true =>
                have jw4 : Hid (JW w (w3.setRow gy X) X (some ⟨b0, off, none⟩) l u5 o2) := jw.out.row HP.out gy hgw hv.out
                have gX : Hid ((w3.setRow gy X).heap[gy]? = some (.cells X 114)) := setRow_blk gY.out
                have hYs : Y.size = 32 := HY.out.size
                go_wp2_with (first | (refine load_it rfl _ rfl _ rfl X _ HX.out (by exact jw.out.x) ?_) | (refine store_it rfl _ _ rfl X _ rfl rfl HX.out (by exact gY.out) hYs ?_) | (refine load_it rfl _ rfl _ rfl X _ HX.out (by exact gX.out) ?_) | (refine build1_it rfl _ rfl X _ HX.out rfl ?_; intro R1) | (at_builtin; refine append_it rfl _ _ rfl (w.heap.size + 1) _ _ rfl (by exact (jw4.out.next (below_alloc _ _)).own) _ 1 _ _ rfl rfl R1 (by omega) (by omega) (by have := lt_of_blk jw4.out.x; simp at this; simp; omega) ?_; intro v1 w2 o1 _ g1 t1 _; have J2 : Hid (JW w w2 X (some ⟨b0, off, none⟩) l v1 (o2 ++ [x])) := (jw4.out.next (below_alloc _ _)).app HP.out o1 g1; clear o1 g1 t1 R1))
                go_roundw
                case rel => exact ⟨k + 1, true, by omega, by go_num, rfl, by rw [HS.out]; simp [jst, HYES.out], by rw [HS.out]; simp only [jst, if_pos HYES.out, HAV.out, HNV.out, if_true]; rw [← HO2.out]; exact J2.out⟩
                case measure => simp [intOf]; omega
              | false =>
                go_wp2_with (first | (refine load_it rfl _ rfl _ rfl X _ HX.out (by exact jw.out.x) ?_) | (refine load_it rfl _ rfl _ rfl Y _ HY.out (by exact gY.out) ?_) | (refine build1_it rfl _ rfl X _ HX.out rfl ?_; intro R1) | (refine build1_it rfl _ rfl Y _ HY.out rfl ?_; intro R1) | (at_builtin; refine append_it rfl _ _ rfl (w.heap.size + 1) _ _ rfl (by exact (jw.out.next (below_alloc _ _)).own) _ 1 _ _ rfl rfl R1 (by omega) (by omega) (by have := lt_of_blk jw.out.x; simp; omega) ?_; intro v1 w2 o1 _ g1 t1 _; have J2 : Hid (JW w w2 X (some ⟨b0, off, none⟩) l v1 (o2 ++ [y])) := (jw.out.next (below_alloc _ _)).app HP.out o1 g1; have G2 : Hid (w2.heap[gy]? = some (.cells Y 114)) := (by unfold Hid; rw [g1.block gy (by have := lt_of_blk gY.out; simp; omega) (fun e => hv.out e.symm)]; exact blk_old gY.out); have V2 : Hid (v1.ownBlock ≠ some gy) := join_far gY.out hv.out t1; clear o1 g1 t1 R1))
                go_roundw
                case rel => exact ⟨k + 1, true, by omega, by go_num, rfl, by rw [HS.out]; simp [jst, HYES.out], by rw [HS.out]; simp only [jst, if_pos HYES.out, HAV.out, HNV.out]; rw [← HO2.out]; exact J2.out⟩
                case measure => simp [intOf]; omega
            · have HNO : Hid (¬ (y.leaf = x.leaf ∧ y.win = x.win)) := fun h => e2 (HKEY.out.1 h).2
              have hbb : (yw == xw) = false := by simp [e2]
              have hbc : (yl == xl) = true := by simp [e1]
              go_wp2_with (first | (refine load_it rfl _ rfl _ rfl X _ HX.out (by exact jw.out.x) ?_) | (refine load_it rfl _ rfl _ rfl Y _ HY.out (by exact gY.out) ?_) | (refine build1_it rfl _ rfl X _ HX.out rfl ?_; intro R1) | (refine build1_it rfl _ rfl Y _ HY.out rfl ?_; intro R1) | (at_builtin; refine append_it rfl _ _ rfl (w.heap.size + 1) _ _ rfl (by exact (jw.out.next (below_alloc _ _)).own) _ 1 _ _ rfl rfl R1 (by omega) (by omega) (by have := lt_of_blk jw.out.x; simp; omega) ?_; intro v1 w2 o1 _ g1 t1 _; have J2 : Hid (JW w w2 X (some ⟨b0, off, none⟩) l v1 (o2 ++ [y])) := (jw.out.next (below_alloc _ _)).app HP.out o1 g1; have G2 : Hid (w2.heap[gy]? = some (.cells Y 114)) := (by unfold Hid; rw [g1.block gy (by have := lt_of_blk gY.out; simp; omega) (fun e => hv.out e.symm)]; exact blk_old gY.out); have V2 : Hid (v1.ownBlock ≠ some gy) := join_far gY.out hv.out t1; clear o1 g1 t1 R1))
              go_roundw
              case rel => exact ⟨k + 1, b2, by omega, by go_num, rfl, by rw [HS.out]; simp [jst, HNO.out, HB2.out, HAV.out], by rw [HS.out]; simp only [jst, if_neg HNO.out, HAV.out]; rw [← HO2.out]; exact J2.out⟩
              case measure => simp [intOf]; omega
          · have HNO : Hid (¬ (y.leaf = x.leaf ∧ y.win = x.win)) := fun h => e1 (HKEY.out.1 h).1
            have hbb : (yl == xl) = false := by simp [e1]
            go_wp2_with (first | (refine load_it rfl _ rfl _ rfl X _ HX.out (by exact jw.out.x) ?_) | (refine load_it rfl _ rfl _ rfl Y _ HY.out (by exact gY.out) ?_) | (refine build1_it rfl _ rfl X _ HX.out rfl ?_; intro R1) | (refine build1_it rfl _ rfl Y _ HY.out rfl ?_; intro R1) | (at_builtin; refine append_it rfl _ _ rfl (w.heap.size + 1) _ _ rfl (by exact (jw.out.next (below_alloc _ _)).own) _ 1 _ _ rfl rfl R1 (by omega) (by omega) (by have := lt_of_blk jw.out.x; simp; omega) ?_; intro v1 w2 o1 _ g1 t1 _; have J2 : Hid (JW w w2 X (some ⟨b0, off, none⟩) l v1 (o2 ++ [y])) := (jw.out.next (below_alloc _ _)).app HP.out o1 g1; have G2 : Hid (w2.heap[gy]? = some (.cells Y 114)) := (by unfold Hid; rw [g1.block gy (by have := lt_of_blk gY.out; simp; omega) (fun e => hv.out e.symm)]; exact blk_old gY.out); have V2 : Hid (v1.ownBlock ≠ some gy) := join_far gY.out hv.out t1; clear o1 g1 t1 R1))
            go_roundw
            case rel => exact ⟨k + 1, b2, by omega, by go_num, rfl, by rw [HS.out]; simp [jst, HNO.out, HB2.out, HAV.out], by rw [HS.out]; simp only [jst, if_neg HNO.out, HAV.out]; rw [← HO2.out]; exact J2.out⟩
            case measure => simp [intOf]; omega
    · obtain rfl : k = n := by omega
      have et : l.take k = l := List.take_of_length_le (by omega)
      rw [et] at HB HO
      cases b with
      | true =>
        have HJ : Hid (jnd l x = o) := by unfold Hid jnd; rw [if_pos HB.out, HO.out]
        go_wp2
        go_ret
        exact ⟨_, rfl, by rw [HJ.out]; exact jw.out.own.mono (by omega), jw.out.below⟩
      | false =>
        have HJ : Hid (jnd l x = o ++ [x]) := by unfold Hid jnd; rw [if_neg (by rw [HB.out]; simp), HO.out]
        go_wp2_with (first | (refine load_it rfl _ rfl _ rfl X _ HX.out (by exact jw.out.x) ?_) | (refine build1_it rfl _ rfl X _ HX.out rfl ?_; intro R1) | (at_builtin; refine append_it rfl _ _ rfl (w.heap.size + 1) _ _ rfl (by exact (jw.out.next (below_alloc _ _)).own) _ 1 _ _ rfl rfl R1 (by omega) (by omega) (by have := lt_of_blk jw.out.x; simp; omega) ?_; intro v1 w2 o1 _ g1 t1 _; have J2 : Hid (JW w w2 X p l v1 (o ++ [x])) := (jw.out.next (below_alloc _ _)).app HP.out o1 g1; clear o1 g1 t1 R1))
        go_ret
        exact ⟨_, rfl, by rw [HJ.out]; exact J2.out.own.mono (by omega), J2.out.below⟩
end Go.Proofs.YtpglbakcjihohaaGreat

/-! Plain facts of sorted items: how many there can be, what is joined, laid in, found; what a leaf knows behind an event or an advance. -/
namespace Go.Proofs.YtpglbakcjihohaaGreat
open Go.RowKit

def Srt (l : List It) : Prop := l.Pairwise fun x y => ahd x y = true
def InB (l : List It) : Prop := ∀ x ∈ l, 0 ≤ x.leaf ∧ x.leaf < 8 ∧ 0 ≤ x.win ∧ x.win < 20
theorem ahd_iff {x y : It} : ahd x y = true ↔ x.leaf < y.leaf ∨ x.leaf = y.leaf ∧ x.win < y.win := by simp [ahd]
theorem ahd_trans {x y z : It} (h : ahd x y = true) (k : ahd y z = true) : ahd x z = true := by rw [ahd_iff] at *; omega
theorem srt_len (l : List It) (hs : Srt l) (hb : InB l) : l.length ≤ 160 := by
  suffices H : ∀ (l : List It) (a : Nat), Srt l → InB l → (∀ x ∈ l, (a : Int) ≤ x.leaf * 20 + x.win) → a ≤ 160 → l.length + a ≤ 160 by
    have := H l 0 hs hb (fun x hx => by have := hb x hx; simp; omega) (by omega); omega
  intro l
  induction l with
  | nil => intro a _ _ _ h; simpa using h
  | cons x l ih =>
    intro a hs hb ha _
    have hx := hb x (by simp)
    have h0 := ha x (by simp)
    have hp := List.pairwise_cons.1 hs
    have := ih (x.leaf * 20 + x.win + 1).toNat hp.2 (fun y hy => hb y (by simp [hy])) (fun y hy => by
      have h1 := ahd_iff.1 (hp.1 y hy)
      have h2 := hb y (by simp [hy])
      omega) (by omega)
    simp only [List.length_cons]
    omega

/-! ### To join -/
def jin (x : It) : List It → List It
  | [] => [x]
  | y :: l => if ahd x y = true then x :: y :: l else if y.leaf = x.leaf ∧ y.win = x.win then (if nwr x y = true then x else y) :: l else y :: jin x l
theorem jst_rest (x : It) : ∀ (l o : List It), (∀ y ∈ l, ¬ (y.leaf = x.leaf ∧ y.win = x.win)) → l.foldl (jst x) (o, true) = (o ++ l, true) := by
  intro l
  induction l with
  | nil => intro o _; simp
  | cons y l ih =>
    intro o h
    have hy := h y (by simp)
    have e : jst x (o, true) y = (o ++ [y], true) := by simp [jst, hy]
    rw [List.foldl_cons, e, ih _ fun z hz => h z (by simp [hz])]
    simp
theorem jnd_jin (x : It) (l : List It) (hs : Srt l) : jnd l x = jin x l := by
  suffices H : ∀ (l o : List It), Srt l → (if (l.foldl (jst x) (o, false)).2 = true then (l.foldl (jst x) (o, false)).1 else (l.foldl (jst x) (o, false)).1 ++ [x]) = o ++ jin x l by
    have := H l [] hs; rw [List.nil_append] at this; exact this
  intro l
  induction l with
  | nil => intro o _; simp [jin]
  | cons y l ih =>
    intro o hs
    have hp := List.pairwise_cons.1 hs
    rw [List.foldl_cons]
    by_cases h1 : ahd x y = true
    · have hne : ¬ (y.leaf = x.leaf ∧ y.win = x.win) := by rw [ahd_iff] at h1; omega
      have e : jst x (o, false) y = (o ++ [x] ++ [y], true) := by simp [jst, h1, hne]
      rw [e, jst_rest x l _ fun z hz => by
        have := ahd_iff.1 (ahd_trans h1 (hp.1 z hz)); omega]
      simp [jin, h1]
    · have h1' : ahd x y = false := by simpa using h1
      by_cases h2 : y.leaf = x.leaf ∧ y.win = x.win
      · have e : jst x (o, false) y = (o ++ [if nwr x y = true then x else y], true) := by simp [jst, h1', h2]
        rw [e, jst_rest x l _ fun z hz => by
          have := ahd_iff.1 (hp.1 z hz); omega]
        simp [jin, h1', h2]
      · have e : jst x (o, false) y = (o ++ [y], false) := by simp [jst, h1', h2]
        rw [e, ih _ hp.2]
        simp [jin, h1', h2]
theorem mem_jin (x : It) (l : List It) (z : It) (h : z ∈ jin x l) : z = x ∨ z ∈ l := by
  induction l with
  | nil => simpa [jin] using h
  | cons y l ih =>
    simp only [jin] at h
    split at h
    · simpa using h
    · split at h
      · split at h <;> simp at h ⊢ <;> grind
      · simp at h ⊢
        rcases h with h | h
        · exact .inr (.inl h)
        · rcases ih h with h | h
          · exact .inl h
          · exact .inr (.inr h)
theorem ahd_lr {x x' y : It} (h1 : x.leaf = x'.leaf) (h2 : x.win = x'.win) : ahd x y = ahd x' y := by unfold ahd; rw [h1, h2]
theorem ahd_rl {x x' y : It} (h1 : x.leaf = x'.leaf) (h2 : x.win = x'.win) : ahd y x = ahd y x' := by unfold ahd; rw [h1, h2]
theorem srt_jin (x : It) (l : List It) (hs : Srt l) : Srt (jin x l) := by
  induction l with
  | nil => simp [jin, Srt]
  | cons y l ih =>
    have hp := List.pairwise_cons.1 hs
    simp only [jin]
    split
    · rename_i h1
      refine List.pairwise_cons.2 ⟨fun z hz => ?_, hs⟩
      rcases List.mem_cons.1 hz with rfl | hz
      · exact h1
      · exact ahd_trans h1 (hp.1 z hz)
    · rename_i h1
      split
      · rename_i h2
        refine List.pairwise_cons.2 ⟨fun z hz => ?_, hp.2⟩
        split
        · rw [← ahd_lr (x := y) h2.1 h2.2]; exact hp.1 z hz
        · exact hp.1 z hz
      · rename_i h2
        refine List.pairwise_cons.2 ⟨fun z hz => ?_, ih hp.2⟩
        rcases mem_jin x l z hz with rfl | hz
        · rw [ahd_iff] at *; omega
        · exact hp.1 z hz
theorem srt_jnd (x : It) (l : List It) (hs : Srt l) : Srt (jnd l x) := by rw [jnd_jin x l hs]; exact srt_jin x l hs
theorem inB_jnd (x : It) (l : List It) (hs : Srt l) (hb : InB l) (hx : 0 ≤ x.leaf ∧ x.leaf < 8 ∧ 0 ≤ x.win ∧ x.win < 20) : InB (jnd l x) := fun z hz => by
  rw [jnd_jin x l hs] at hz
  rcases mem_jin x l z hz with rfl | h
  · exact hx
  · exact hb z h
theorem mem_jnd (x : It) (l : List It) (hs : Srt l) (z : It) (h : z ∈ jnd l x) : z = x ∨ z ∈ l := by rw [jnd_jin x l hs] at h; exact mem_jin x l z h
def AllIn (xs : List It) : Prop := ∀ x ∈ xs, x.Ok ∧ 0 ≤ x.leaf ∧ x.leaf < 8 ∧ 0 ≤ x.win ∧ x.win < 20
/-- A list of items as a node keeps it. -/
structure Good (l : List It) : Prop where
  srt : Srt l
  inb : InB l
  ok : AllOkI l
theorem AllOkI.mem {l : List It} (h : AllOkI l) {x : It} (hx : x ∈ l) : x.Ok := by obtain ⟨i, hi⟩ := List.getElem?_of_mem hx; exact h i x hi
theorem allOkI_of {l : List It} (h : ∀ x ∈ l, x.Ok) : AllOkI l := fun _ x hx => h x (List.mem_of_getElem? hx)
theorem Good.nil : Good [] := ⟨List.Pairwise.nil, fun x hx => by simp at hx, fun i x hx => by simp at hx⟩
theorem Good.len {l : List It} (h : Good l) : l.length ≤ 160 := srt_len l h.srt h.inb
theorem Good.jnd {l : List It} (h : Good l) {x : It} (hx : x.Ok ∧ 0 ≤ x.leaf ∧ x.leaf < 8 ∧ 0 ≤ x.win ∧ x.win < 20) : Good (jnd l x) :=
  ⟨srt_jnd x l h.srt, inB_jnd x l h.srt h.inb hx.2, allOkI_of fun z hz => by
    rcases mem_jnd x l h.srt z hz with rfl | h1
    · exact hx.1
    · exact h.ok.mem h1⟩
theorem Good.dlv {l xs : List It} (h : Good l) (hx : AllIn xs) : Good (xs.foldl Go.Proofs.YtpglbakcjihohaaGreat.jnd l) := by
  induction xs generalizing l with
  | nil => exact h
  | cons x xs ih => exact ih (h.jnd (hx x (by simp))) fun y hy => hx y (by simp [hy])
theorem AllIn.take {xs : List It} (h : AllIn xs) (k : Nat) : AllIn (xs.take k) := fun x hx => h x (List.mem_of_mem_take hx)
theorem dlv_take (xs l : List It) (k : Nat) (x : It) (h : xs[k]? = some x) : (xs.take (k + 1)).foldl jnd l = jnd ((xs.take k).foldl jnd l) x := by
  rw [List.take_add_one, h]; simp
/-! ### To lay in, to find -/
def pin (x : It) : List It → List It
  | [] => [x]
  | y :: l => if ahd y x = true then y :: pin x l else if y.leaf = x.leaf ∧ y.win = x.win then x :: l else x :: y :: l
def newIt (lf wn : Int) : It := ⟨lf, wn, 0, false, Sk.empty⟩
def itm (lf wn : Int) : List It → It
  | [] => newIt lf wn
  | y :: l => if y.leaf < lf ∨ y.leaf = lf ∧ y.win < wn then itm lf wn l else if y.leaf = lf ∧ y.win = wn then y else newIt lf wn
theorem pin_ahead (x : It) (l r : List It) (h : ∀ y ∈ l, ahd y x = true) : pin x (l ++ r) = l ++ pin x r := by
  induction l with
  | nil => rfl
  | cons y l ih => simp [pin, h y (by simp), ih fun z hz => h z (by simp [hz])]
theorem itm_ahead (x : It) (l r : List It) (h : ∀ y ∈ l, ahd y x = true) : itm x.leaf x.win (l ++ r) = itm x.leaf x.win r := by
  induction l with
  | nil => rfl
  | cons y l ih =>
    have := ahd_iff.1 (h y (by simp))
    simp [itm, this, ih fun z hz => h z (by simp [hz])]
theorem pin_behind (x : It) (l : List It) (h : ∀ y ∈ l, ahd x y = true) : pin x l = x :: l := by
  cases l with
  | nil => rfl
  | cons y l =>
    have := ahd_iff.1 (h y (by simp))
    have h1 : ¬ ahd y x = true := by rw [ahd_iff]; omega
    have h2 : ¬ (y.leaf = x.leaf ∧ y.win = x.win) := by omega
    simp [pin, h1, h2]
theorem itm_behind (x : It) (l : List It) (h : ∀ y ∈ l, ahd x y = true) : itm x.leaf x.win l = newIt x.leaf x.win := by
  cases l with
  | nil => rfl
  | cons y l =>
    have := ahd_iff.1 (h y (by simp))
    have h1 : ¬ (y.leaf < x.leaf ∨ y.leaf = x.leaf ∧ y.win < x.win) := by omega
    have h2 : ¬ (y.leaf = x.leaf ∧ y.win = x.win) := by omega
    simp [itm, h1, h2]
/-- The windows ahead of j, it, and those behind it. -/
theorem range_split (j m : Nat) (h : j < m) : List.range m = List.range j ++ ([j] ++ List.range' (j + 1) (m - (j + 1))) := by
  obtain ⟨d, rfl⟩ : ∃ d, m = j + (1 + d) := ⟨m - (j + 1), by omega⟩
  rw [show j + (1 + d) - (j + 1) = d by omega, List.range_eq_range', ← List.range'_append_1, List.range_eq_range', ← List.range'_append_1]
  simp
theorem known_split (n : Int) (l : List Ev3) (cl : Nat → Bool) (j : Nat) (h : j < 20) :
    known n l cl = ((List.range j).filter (has l cl)).map (itOf n l cl) ++ ((if has l cl j = true then [itOf n l cl j] else []) ++ ((List.range' (j + 1) (20 - (j + 1))).filter (has l cl)).map (itOf n l cl)) := by
  unfold known knownTo
  rw [range_split j 20 h, List.filter_append, List.filter_append, List.map_append, List.map_append]
  congr 2
  by_cases hj : has l cl j = true <;> simp [hj]
theorem known_low (n : Int) (l : List Ev3) (cl : Nat → Bool) (j : Nat) (x : It) (h1 : x.leaf = n) (h2 : x.win = j) : ∀ y ∈ ((List.range j).filter (has l cl)).map (itOf n l cl), ahd y x = true := fun y hy => by
  simp only [List.mem_map, List.mem_filter, List.mem_range] at hy
  obtain ⟨k, ⟨hk, _⟩, rfl⟩ := hy
  rw [ahd_iff]; right
  exact ⟨h1.symm, by rw [h2]; show (k : Int) < j; omega⟩
theorem known_high (n : Int) (l : List Ev3) (cl : Nat → Bool) (j m : Nat) (x : It) (h1 : x.leaf = n) (h2 : x.win = j) : ∀ y ∈ ((List.range' (j + 1) m).filter (has l cl)).map (itOf n l cl), ahd x y = true := fun y hy => by
  simp only [List.mem_map, List.mem_filter, List.mem_range'] at hy
  obtain ⟨k, ⟨⟨i, _, rfl⟩, _⟩, rfl⟩ := hy
  rw [ahd_iff]; right
  exact ⟨h1, by rw [h2]; show (j : Int) < ((j + 1 + 1 * i : Nat) : Int); omega⟩
theorem known_itm (n : Int) (l : List Ev3) (cl : Nat → Bool) (j : Nat) (h : j < 20) : itm n j (known n l cl) = ⟨n, j, ((evK l j).length : Int), cl j, skOf (evK l j)⟩ := by
  rw [known_split n l cl j h]
  have e1 := itm_ahead (newIt n j) _ ((if has l cl j = true then [itOf n l cl j] else []) ++ ((List.range' (j + 1) (20 - (j + 1))).filter (has l cl)).map (itOf n l cl)) (known_low n l cl j (newIt n j) rfl rfl)
  simp only [newIt] at e1
  rw [e1]
  by_cases hj : has l cl j = true
  · rw [if_pos hj]
    simp [itm, itOf]
  · rw [if_neg hj, List.nil_append]
    have e2 := itm_behind (newIt n j) _ (known_high n l cl j (20 - (j + 1)) (newIt n j) rfl rfl)
    simp only [newIt] at e2
    rw [e2]
    simp only [has, Bool.or_eq_true, decide_eq_true_eq, not_or] at hj
    have h0 : evK l j = [] := List.eq_nil_of_length_eq_zero (by omega)
    have h1 : cl j = false := by simpa using hj.2
    simp [h0, h1, skOf]
theorem known_pin (n : Int) (l l' : List Ev3) (cl cl' : Nat → Bool) (j : Nat) (h : j < 20) (he : ∀ k : Nat, k < 20 → k ≠ j → evK l' k = evK l k ∧ cl' k = cl k) (hj : has l' cl' j = true) :
    known n l' cl' = pin (itOf n l' cl' j) (known n l cl) := by
  rw [known_split n l cl j h, known_split n l' cl' j h, pin_ahead _ _ _ (known_low n l cl j (itOf n l' cl' j) rfl rfl), if_pos hj]
  have low : ((List.range j).filter (has l' cl')).map (itOf n l' cl') = ((List.range j).filter (has l cl)).map (itOf n l cl) := by
    have : (List.range j).filter (has l' cl') = (List.range j).filter (has l cl) := List.filter_congr fun k hk => by
      have hk := List.mem_range.1 hk
      obtain ⟨e1, e2⟩ := he k (by omega) (by omega)
      simp [has, e1, e2]
    rw [this]
    refine List.map_congr_left fun k hk => ?_
    have hk := List.mem_range.1 (List.mem_filter.1 hk).1
    obtain ⟨e1, e2⟩ := he k (by omega) (by omega)
    simp [itOf, e1, e2]
  have high : ((List.range' (j + 1) (20 - (j + 1))).filter (has l' cl')).map (itOf n l' cl') = ((List.range' (j + 1) (20 - (j + 1))).filter (has l cl)).map (itOf n l cl) := by
    have : (List.range' (j + 1) (20 - (j + 1))).filter (has l' cl') = (List.range' (j + 1) (20 - (j + 1))).filter (has l cl) := List.filter_congr fun k hk => by
      obtain ⟨i, hi, rfl⟩ := List.mem_range'.1 hk
      obtain ⟨e1, e2⟩ := he (j + 1 + 1 * i) (by omega) (by omega)
      unfold has; rw [e1, e2]
    rw [this]
    refine List.map_congr_left fun k hk => ?_
    obtain ⟨i, hi, rfl⟩ := List.mem_range'.1 (List.mem_filter.1 hk).1
    obtain ⟨e1, e2⟩ := he (j + 1 + 1 * i) (by omega) (by omega)
    unfold itOf; rw [e1, e2]
  rw [low, high]
  congr 1
  by_cases h0 : has l cl j = true
  · rw [if_pos h0]
    have : ¬ ahd (itOf n l cl j) (itOf n l' cl' j) = true := by rw [ahd_iff]; simp [itOf]
    simp [pin, this]
    simp [itOf]
  · rw [if_neg h0, List.nil_append, pin_behind _ _ (known_high n l cl j _ _ rfl rfl)]
    simp
theorem evK_add (l : List Ev3) (e : Ev3) (k : Int) : evK (l ++ [e]) k = evK l k ++ (if e.win = k then [e] else []) := by
  unfold evK; rw [List.filter_append]
  by_cases h : e.win = k <;> simp [h]
/-- An event more. -/
theorem known_add (n : Int) (l : List Ev3) (cl : Nat → Bool) (e : Ev3) (j : Nat) (hj : j < 20) (hw : e.win = j) :
    known n (l ++ [e]) cl = pin { itm n j (known n l cl) with ver := (itm n j (known n l cl)).ver + 1, sk := mrg (itm n j (known n l cl)).sk (one e.key.data.toList e.v) } (known n l cl) := by
  rw [known_itm n l cl j hj, known_pin n l (l ++ [e]) cl cl j hj (fun k _ hk => ⟨by rw [evK_add, if_neg (by rw [hw]; omega)]; simp, rfl⟩) (by rw [has, evK_add, if_pos hw]; simp)]
  congr 1
  simp only [itOf]
  rw [evK_add, if_pos hw, skOf_append]
  simp
/-- A window that is closed. -/
theorem known_close (n : Int) (l : List Ev3) (cl : Nat → Bool) (j : Nat) (hj : j < 20) :
    known n l (fun i => if i = j then true else cl i) = pin { itm n j (known n l cl) with fin := true } (known n l cl) := by
  rw [known_itm n l cl j hj, known_pin n l l cl (fun i => if i = j then true else cl i) j hj (fun k _ hk => ⟨rfl, by simp [hk]⟩) (by simp [has])]
  congr 1
  simp [itOf]
theorem known_good (n : Int) (l : List Ev3) (cl : Nat → Bool) (hn0 : 0 ≤ n) (hn : n < 8) (hl : EvOk l) (hm : l.length ≤ 1000000000) : Good (known n l cl) := by
  refine ⟨?_, fun x hx => ?_, allOkI_of fun x hx => ?_⟩
  · unfold Srt known knownTo
    refine List.Pairwise.map _ (fun a b (h : a < b) => ?_) (List.Pairwise.filter _ List.pairwise_lt_range)
    rw [ahd_iff]; right; exact ⟨rfl, by show (a : Int) < b; omega⟩
  · simp only [known, knownTo, List.mem_map, List.mem_filter, List.mem_range] at hx
    obtain ⟨k, ⟨hk, _⟩, rfl⟩ := hx
    exact ⟨hn0, hn, by show (0 : Int) ≤ k; omega, by show (k : Int) < 20; omega⟩
  · simp only [known, knownTo, List.mem_map, List.mem_filter, List.mem_range] at hx
    obtain ⟨k, ⟨hk, _⟩, rfl⟩ := hx
    exact itOf_ok hl n ⟨by omega, by omega⟩ cl k hk hm
end Go.Proofs.YtpglbakcjihohaaGreat

/-! 'fair': may a packet come to a node, for every packet. -/
namespace Go.Proofs.YtpglbakcjihohaaGreat
open Go.RowKit
set_option maxRecDepth 100000

/-- May an item stand in a packet of that node? -/
def okIt (t : List Int) (fr : Int) (x : It) : Bool := isNd t x.leaf && decide (0 ≤ x.win ∧ x.win < 20 ∧ 0 ≤ x.ver) && isLf t x.leaf && under t x.leaf fr
def okAt (t : List Int) (fr : Int) (l : List It) (i : Nat) : Bool :=
  ((l[i]?).map fun x => okIt t fr x && (decide (i = 0) || ((l[i - 1]?).map fun y => ahd y x).getD false)).getD false
def fairTo (t : List Int) (fr : Int) (l : List It) (k : Nat) : Prop := ∀ i, i < k → okAt t fr l i = true
def fair (t : List Int) (n fr : Int) (l : List It) : Bool := isNd t fr && decide (t.getD fr.toNat 0 = n) && (List.range l.length).all (okAt t fr l)
theorem fair_iff {t : List Int} {n fr : Int} {l : List It} : fair t n fr l = true ↔ isNd t fr = true ∧ t.getD fr.toNat 0 = n ∧ fairTo t fr l l.length := by
  unfold fair fairTo
  simp only [Bool.and_eq_true, decide_eq_true_eq, List.all_eq_true, List.mem_range, and_assoc]
theorem fair_yes {t : List Int} {n fr : Int} {l : List It} (h1 : isNd t fr = true) (h2 : t.getD fr.toNat 0 = n) (h3 : fairTo t fr l l.length) : fair t n fr l = true := fair_iff.2 ⟨h1, h2, h3⟩
theorem fair_no {t : List Int} {n fr : Int} {l : List It} (h : ¬ (isNd t fr = true ∧ t.getD fr.toNat 0 = n ∧ fairTo t fr l l.length)) : fair t n fr l = false := by
  cases e : fair t n fr l with
  | false => rfl
  | true => exact absurd (fair_iff.1 e) h
theorem fair_bad {t : List Int} {n fr : Int} {l : List It} (i : Nat) (hi : i < l.length) (h : okAt t fr l i = false) : fair t n fr l = false := fair_no fun ⟨_, _, h3⟩ => by rw [h3 i hi] at h; cases h

section
variable {ops : Array Oper} {o : Oper} {a : Act} {S : World → Prop}
theorem yieldsIf_load_it_mid (hw : Region.wanted o (yielded ops a.tmps) = true) (x : Operand) (ho : o.op = .load 114 x) (g off : Nat) (hx : a.eval x = .pointer (some ⟨g, off, none⟩)) (A : Array Value) (s : It) (hA : IsIt A s)
    (hS : ∀ w, S w → w.rangeAt g off s.cells) : YieldsIf Tryz.prog ops S o (.agg A) a := by
  have e : A = s.cells.toArray := by rw [← show A.toList = s.cells from hA]
  rw [e]
  exact yieldsIf_load_mid hw _ x ho g off hx s.cells _ hS Tryz.underlying114 rfl (info_it' s)
theorem yieldsIf_load_it (hw : Region.wanted o (yielded ops a.tmps) = true) (x : Operand) (ho : o.op = .load 114 x) (g : Nat) (hx : a.eval x = .pointer (some ⟨g, 0, none⟩)) (A : Array Value) (s : It) (hA : IsIt A s)
    (hS : ∀ w, S w → w.heap[g]? = some (.cells A 114)) : YieldsIf Tryz.prog ops S o (.agg A) a :=
  .inl ⟨hw, fun w hw' => by
    unfold execOp
    simp only [ho, hx, Instr.loadAt, Instr.sureAddr, Sem.run_bind, Sem.run_pure, Result.andThen_ok, run_loadVar_row w g _ _ A (0, 0) _ (hS w hw') Tryz.underlying114 rfl (info_it hA)]⟩
end
set_option maxHeartbeats 4000000 in
theorem fair_any (w : World) (bw : Nat) (pt : Option Addr) (ct : Nat) (t : List Int) (hT : TreeAt w bw pt ct t) (hTr : Tree t) (n fr : Int) (l : List It) (p : Option Addr) (m c : Nat) (hm : l.length = m) (hr : RowsAt clIt w p l) (hml : m ≤ 1000000000) :
    Calls Tryz.prog 85 #[.pointer (some ⟨bw, 0, none⟩), .int .i64 n, .agg #[.int .i64 fr, .slice p m c]] w fun e w' => e = .returned (.bool (fair t n fr l)) ∧ Below w.heap.size w w' := by
  have h8 := hTr.le
  have HT : Hid (TreeAt w bw pt ct t) := hT
  have HTr : Hid (Tree t) := hTr
  have HP : Hid (RowsAt clIt w p l) := hr
  have HT1 : Hid (TreeAt (w.alloc (.cells #[.int .i64 fr, .slice p m c] 31)) bw pt ct t) := hT.below (below_alloc _ _)
  clear hT hTr hr
  by_cases hnd : isNd t fr = true
  · have hfr : 0 ≤ fr ∧ fr < t.length := by simpa [isNd] using hnd
    obtain ⟨fk, hfk⟩ : ∃ fk : Nat, fr = fk := ⟨fr.toNat, by omega⟩
    have hfk8 : fk < t.length := by omega
    obtain ⟨bt, ot, hpt, hbt, dt⟩ := HT.out.rows.int_at (Below.refl _ _) fk hfk8
    have c0 := HT.out.cell
    obtain ⟨N, hN⟩ : ∃ N, t.length = N := ⟨_, rfl⟩
    rw [hN] at c0 h8 hfk8
    rw [← tree_get (by omega)] at dt
    have HUP : Hid (t.getD fr.toNat 0 = t.getD fk 0) := by unfold Hid; rw [hfk]; simp
    obtain ⟨up, hup⟩ : ∃ up, t.getD fk 0 = up := ⟨_, rfl⟩
    rw [hup] at dt HUP
    subst hpt
    have d0 : (w.alloc (.cells #[.int .i64 fr, .slice p m c] 31)).cell? ⟨bw, 0, none⟩ = some (.slice (some ⟨bt, ot, none⟩) N ct) := cell_keep (below_alloc _ _) c0
    have d1 : (w.alloc (.cells #[.int .i64 fr, .slice p m c] 31)).cell? ⟨bt, ot + fk, none⟩ = some (.int .i64 up) := cell_keep (below_alloc _ _) dt
    clear c0 dt hup hfr
    subst hfk
    by_cases hn : up = n
    · subst hn
      go_enter Tryz.func85, Tryz.ntmps85
      have hbb : (up != up) = false := by simp
      go_wp2_with (go_at_call 54; refine (isNode_any _ _ _ _ t HT1.out _).mono ?_; rintro e wA ⟨rfl, hwA⟩; subst hwA; rw [hnd])
      go_quiet (fail)
      go_wp2
      clear d0 d1
      go_loopw [8] (fun iv wr => ∃ i : Nat, i ≤ m ∧ iv = .int .i64 i ∧ fairTo t fk l i ∧ Below w.heap.size w wr ∧ wr.heap[w.heap.size]? = some (.cells #[.int .i64 fk, .slice p m c] 31)) (fun iv _ => m - (intOf iv).toNat)
      case atStart => exact ⟨0, by omega, rfl, fun i hi => by omega, below_drawn (below_alloc _ _) _, heap_alloc_new _ _⟩
      case round =>
        obtain ⟨i, hi, rfl, hft, hB, gP⟩ := hrel
        have HF : Hid (fairTo t fk l i) := hft
        have HB : Hid (Below w.heap.size w wr) := hB
        have p0 : wr.cell? ⟨w.heap.size, 0, none⟩ = some (.int .i64 fk) := by rw [cell_of_row _ _ _ _ _ _ gP]; rfl
        have p1 : wr.cell? ⟨w.heap.size, 1, none⟩ = some (.slice p m c) := by rw [cell_of_row _ _ _ _ _ _ gP]; rfl
        have p0a : ∀ o, (wr.alloc o).cell? ⟨w.heap.size, 0, none⟩ = some (.int .i64 fk) := fun o => cell_keep (below_alloc _ _) p0
        have p1a : ∀ o, (wr.alloc o).cell? ⟨w.heap.size, 1, none⟩ = some (.slice p m c) := fun o => cell_keep (below_alloc _ _) p1
        have HTr2 : Hid (TreeAt wr bw (some ⟨bt, ot, none⟩) ct t) := HT.out.below hB
        have GP : Hid (wr.heap[w.heap.size]? = some (.cells #[.int .i64 fk, .slice p m c] 31)) := gP
        clear hft gP
        by_cases hli : i < m
        · obtain ⟨x, hx⟩ : ∃ x, l[i]? = some x := ⟨_, List.getElem?_eq_getElem (by omega)⟩
          obtain ⟨b0, off, rfl, hlt, hcx⟩ := HP.out.pos i (by omega)
          have rg : Hid (wr.rangeAt b0 (off + i * 32) x.cells) := range_below hB hlt (hcx i x hx)
          have HPR : Hid (∀ y, l[i - 1]? = some y → wr.rangeAt b0 (off + (i - 1) * 32) y.cells) := fun y hy => range_below hB hlt (hcx (i - 1) y hy)
          have HBL : Hid (b0 < wr.heap.size) := Nat.lt_of_lt_of_le hlt hB.size
          clear hcx hB hlt
          by_cases ha : isNd t x.leaf = true
          · have hxl : 0 ≤ x.leaf ∧ x.leaf < t.length := by simpa [isNd] using ha
            obtain ⟨hxl0, hxl1⟩ := hxl
            by_cases w0 : x.win < 0
            · have w0' : ¬ 0 ≤ x.win := by omega
              have HE : Hid (fair t up fk l = false) := fair_bad i (by omega) (by simp [okAt, hx, okIt, ha, w0'])
              clear hx
              go_wp2_with (first | (refine load_it_mid rfl _ rfl _ _ rfl x (by exact rg.out) ?_; intro Y hY; have m0 := hY.get0; have m1 := hY.get1; have m2 := hY.get2; have HY : Hid (IsIt Y x) := hY; clear hY) | (refine alloc_it rfl rfl ?_; intro Z hZ0; have hZ : Hid (IsIt Z It.zero) := hZ0; clear hZ0) | (refine store_it_new rfl _ _ rfl Y _ _ rfl rfl (by simp) HY.out (by exact hZ.out) ?_) | (go_at_call 54; refine (isNode_any _ _ _ _ t (HTr2.out.below (by exact below_alloc _ _)) _).mono ?_; rintro e wA ⟨rfl, hwA⟩; subst hwA; rw [ha]))
              go_ret
              exact ⟨by rw [HE.out]; rfl, bnext HB.out (below_alloc _ _)⟩
            · by_cases w1 : 20 ≤ x.win
              · have w1' : ¬ x.win < 20 := by omega
                have HE : Hid (fair t up fk l = false) := fair_bad i (by omega) (by simp [okAt, hx, okIt, ha, w1'])
                clear hx
                go_wp2_with (first | (refine load_it_mid rfl _ rfl _ _ rfl x (by exact rg.out) ?_; intro Y hY; have m0 := hY.get0; have m1 := hY.get1; have m2 := hY.get2; have HY : Hid (IsIt Y x) := hY; clear hY) | (refine alloc_it rfl rfl ?_; intro Z hZ0; have hZ : Hid (IsIt Z It.zero) := hZ0; clear hZ0) | (refine store_it_new rfl _ _ rfl Y _ _ rfl rfl (by simp) HY.out (by exact hZ.out) ?_) | (go_at_call 54; refine (isNode_any _ _ _ _ t (HTr2.out.below (by exact below_alloc _ _)) _).mono ?_; rintro e wA ⟨rfl, hwA⟩; subst hwA; rw [ha]))
                go_ret
                exact ⟨by rw [HE.out]; rfl, bnext HB.out (below_alloc _ _)⟩
              · by_cases v0 : x.ver < 0
                · have v0' : ¬ 0 ≤ x.ver := by omega
                  have HE : Hid (fair t up fk l = false) := fair_bad i (by omega) (by simp [okAt, hx, okIt, ha, v0'])
                  clear hx
                  go_wp2_with (first | (refine load_it_mid rfl _ rfl _ _ rfl x (by exact rg.out) ?_; intro Y hY; have m0 := hY.get0; have m1 := hY.get1; have m2 := hY.get2; have HY : Hid (IsIt Y x) := hY; clear hY) | (refine alloc_it rfl rfl ?_; intro Z hZ0; have hZ : Hid (IsIt Z It.zero) := hZ0; clear hZ0) | (refine store_it_new rfl _ _ rfl Y _ _ rfl rfl (by simp) HY.out (by exact hZ.out) ?_) | (go_at_call 54; refine (isNode_any _ _ _ _ t (HTr2.out.below (by exact below_alloc _ _)) _).mono ?_; rintro e wA ⟨rfl, hwA⟩; subst hwA; rw [ha]))
                  go_ret
                  exact ⟨by rw [HE.out]; rfl, bnext HB.out (below_alloc _ _)⟩
                · have kk : (0 ≤ x.win ∧ x.win < 20 ∧ 0 ≤ x.ver) := ⟨by omega, by omega, by omega⟩
                  obtain ⟨fb, hb⟩ : ∃ fb, isLf t x.leaf = fb := ⟨_, rfl⟩
                  obtain ⟨fc, hc⟩ : ∃ fc, under t x.leaf fk = fc := ⟨_, rfl⟩
                  cases fb with
                  | false =>
                    have HE : Hid (fair t up fk l = false) := fair_bad i (by omega) (by simp [okAt, hx, okIt, ha, hb])
                    clear hx
                    go_wp2_with (first | (refine load_it_mid rfl _ rfl _ _ rfl x (by exact rg.out) ?_; intro Y hY; have m0 := hY.get0; have m1 := hY.get1; have m2 := hY.get2; have HY : Hid (IsIt Y x) := hY; clear hY) | (refine alloc_it rfl rfl ?_; intro Z hZ0; have hZ : Hid (IsIt Z It.zero) := hZ0; clear hZ0) | (refine store_it_new rfl _ _ rfl Y _ _ rfl rfl (by simp) HY.out (by exact hZ.out) ?_) | (go_at_call 54; refine (isNode_any _ _ _ _ t (HTr2.out.below (by exact below_alloc _ _)) _).mono ?_; rintro e wA ⟨rfl, hwA⟩; subst hwA; rw [ha]) | (go_at_call 75; refine (isLeaf_any _ _ _ _ t (HTr2.out.below (by exact below_alloc _ _)) _ (by omega)).mono ?_; rintro e wA ⟨rfl, hwA⟩; subst hwA; rw [hb]) | (go_at_call 76; refine (under_any _ _ _ _ t (HTr2.out.below (by exact below_alloc _ _)) HTr.out _ _ (by omega)).mono ?_; rintro e wA ⟨rfl, hwA⟩; subst hwA; rw [hc]))
                    go_ret
                    exact ⟨by rw [HE.out]; rfl, bnext HB.out (below_alloc _ _)⟩
                  | true =>
                    cases fc with
                    | false =>
                      have HE : Hid (fair t up fk l = false) := fair_bad i (by omega) (by simp [okAt, hx, okIt, ha, hb, hc])
                      clear hx
                      go_wp2_with (first | (refine load_it_mid rfl _ rfl _ _ rfl x (by exact rg.out) ?_; intro Y hY; have m0 := hY.get0; have m1 := hY.get1; have m2 := hY.get2; have HY : Hid (IsIt Y x) := hY; clear hY) | (refine alloc_it rfl rfl ?_; intro Z hZ0; have hZ : Hid (IsIt Z It.zero) := hZ0; clear hZ0) | (refine store_it_new rfl _ _ rfl Y _ _ rfl rfl (by simp) HY.out (by exact hZ.out) ?_) | (go_at_call 54; refine (isNode_any _ _ _ _ t (HTr2.out.below (by exact below_alloc _ _)) _).mono ?_; rintro e wA ⟨rfl, hwA⟩; subst hwA; rw [ha]) | (go_at_call 75; refine (isLeaf_any _ _ _ _ t (HTr2.out.below (by exact below_alloc _ _)) _ (by omega)).mono ?_; rintro e wA ⟨rfl, hwA⟩; subst hwA; rw [hb]) | (go_at_call 76; refine (under_any _ _ _ _ t (HTr2.out.below (by exact below_alloc _ _)) HTr.out _ _ (by omega)).mono ?_; rintro e wA ⟨rfl, hwA⟩; subst hwA; rw [hc]))
                      go_ret
                      exact ⟨by rw [HE.out]; rfl, bnext HB.out (below_alloc _ _)⟩
                    | true =>
                      have hok : okIt t fk x = true := by simp [okIt, ha, hb, hc, kk]
                      by_cases hi0 : i = 0
                      · have HF2 : Hid (fairTo t fk l (i + 1)) := fun j hj => by
                          by_cases e : j = i
                          · rw [e]; unfold okAt; rw [hx]; simp [hok, hi0]
                          · exact HF.out j (by omega)
                        subst hi0
                        clear hx hok
                        go_wp2_with (first | (refine load_it_mid rfl _ rfl _ _ rfl x (by exact rg.out) ?_; intro Y hY; have m0 := hY.get0; have m1 := hY.get1; have m2 := hY.get2; have HY : Hid (IsIt Y x) := hY; clear hY) | (refine alloc_it rfl rfl ?_; intro Z hZ0; have hZ : Hid (IsIt Z It.zero) := hZ0; clear hZ0) | (refine store_it_new rfl _ _ rfl Y _ _ rfl rfl (by simp) HY.out (by exact hZ.out) ?_) | (go_at_call 54; refine (isNode_any _ _ _ _ t (HTr2.out.below (by exact below_alloc _ _)) _).mono ?_; rintro e wA ⟨rfl, hwA⟩; subst hwA; rw [ha]) | (go_at_call 75; refine (isLeaf_any _ _ _ _ t (HTr2.out.below (by exact below_alloc _ _)) _ (by omega)).mono ?_; rintro e wA ⟨rfl, hwA⟩; subst hwA; rw [hb]) | (go_at_call 76; refine (under_any _ _ _ _ t (HTr2.out.below (by exact below_alloc _ _)) HTr.out _ _ (by omega)).mono ?_; rintro e wA ⟨rfl, hwA⟩; subst hwA; rw [hc]))
                        go_roundw
                        case rel => exact ⟨0 + 1, by omega, by go_num, HF2.out, bnext HB.out (below_alloc _ _), blk_old GP.out⟩
                        case measure => simp [intOf]; omega
                      · obtain ⟨y, hy⟩ : ∃ y, l[i - 1]? = some y := ⟨_, List.getElem?_eq_getElem (by omega)⟩
                        have ry : Hid (wr.rangeAt b0 (off + (i - 1) * 32) y.cells) := HPR.out y hy
                        obtain ⟨av, hav⟩ : ∃ av, ahd y x = av := ⟨_, rfl⟩
                        have HOK : Hid (okAt t fk l i = av) := by unfold Hid; simp [okAt, hx, hy, hok, hi0, hav]
                        obtain ⟨j, rfl⟩ : ∃ j, i = j + 1 := ⟨i - 1, by omega⟩
                        rw [Nat.add_sub_cancel] at ry
                        clear hx hy hok HPR
                        obtain ⟨YP, HYP0⟩ : ∃ YP, IsIt YP y := ⟨_, isIt_of y⟩
                        have HYP : Hid (IsIt YP y) := HYP0
                        clear HYP0
                        go_wp2_with (first | (refine load_it_mid rfl _ rfl _ _ rfl x (by exact rg.out) ?_; intro Y hY; have m0 := hY.get0; have m1 := hY.get1; have m2 := hY.get2; have HY : Hid (IsIt Y x) := hY; clear hY) | (refine alloc_it rfl rfl ?_; intro Z hZ0; have hZ : Hid (IsIt Z It.zero) := hZ0; clear hZ0) | (refine store_it_new rfl _ _ rfl Y _ _ rfl rfl (by simp) HY.out (by exact hZ.out) ?_) | (go_at_call 54; refine (isNode_any _ _ _ _ t (HTr2.out.below (by exact below_alloc _ _)) _).mono ?_; rintro e wA ⟨rfl, hwA⟩; subst hwA; rw [ha]) | (go_at_call 75; refine (isLeaf_any _ _ _ _ t (HTr2.out.below (by exact below_alloc _ _)) _ (by omega)).mono ?_; rintro e wA ⟨rfl, hwA⟩; subst hwA; rw [hb]) | (go_at_call 76; refine (under_any _ _ _ _ t (HTr2.out.below (by exact below_alloc _ _)) HTr.out _ _ (by omega)).mono ?_; rintro e wA ⟨rfl, hwA⟩; subst hwA; rw [hc]))
                        have es : IntKind.i64.wrap ((j : Int) + 1 - 1) = (j : Int) := by rw [IntWalk.i64_in _ ⟨by omega, by omega⟩]; omega
                        have es2 : (j : Int) + 1 - 1 = (j : Int) := by omega
                        have ej : IntKind.i64.wrap (j : Int) = (j : Int) := IntWalk.i64_in _ ⟨by omega, by omega⟩
                        have j0 : (0 : Int) ≤ (j : Int) := by omega
                        have j1 : (j : Int) < (m : Int) := by omega
                        obtain ⟨wz, hwz⟩ : ∃ wz, wz = wr.alloc (.cells Y 114) := ⟨_, rfl⟩
                        have z1 : wz.cell? ⟨w.heap.size, 1, none⟩ = some (.slice (some ⟨b0, off, none⟩) m c) := by rw [hwz]; exact p1a _
                        have rz : Hid (wz.rangeAt b0 (off + j * 32) y.cells) := by unfold Hid; rw [hwz]; exact World.rangeAt_alloc ry.out _
                        have gz : Hid (wz.heap[wr.heap.size]? = some (.cells Y 114)) := by unfold Hid; rw [hwz]; exact heap_alloc_new _ _
                        have HBz : Hid (Below w.heap.size w wz) := by unfold Hid; rw [hwz]; exact bnext HB.out (below_alloc _ _)
                        have GPz : Hid (wz.heap[w.heap.size]? = some (.cells #[.int .i64 fk, .slice (some ⟨b0, off, none⟩) m c] 31)) := by unfold Hid; rw [hwz]; exact blk_old GP.out
                        have HBLT : Hid (b0 < wz.heap.size) := by unfold Hid; rw [hwz]; have := HBL.out; simp; omega
                        rw [← hwz]
                        clear hwz p0 p1 p0a p1a m0 m1 m2
                        have hT0 : (fun w' : World => w'.cell? ⟨w.heap.size, 1, none⟩ = some (.slice (some ⟨b0, off, none⟩) m c) ∧ w'.rangeAt b0 (off + j * 32) y.cells ∧ w'.heap[wr.heap.size]? = some (.cells Y 114)) wz.drew := ⟨z1, rz.out, gz.out⟩
                        refine wp_region_held (S := fun w' : World => w'.cell? ⟨w.heap.size, 1, none⟩ = some (.slice (some ⟨b0, off, none⟩) m c) ∧ w'.rangeAt b0 (off + j * 32) y.cells ∧ w'.heap[wr.heap.size]? = some (.cells Y 114)) mixed ?_
                        refine wpAnyH_take (i := 0) (v := (.pointer (some ⟨w.heap.size, 1, none⟩))) rfl (by kernel_rfl) (by kernel_rfl) (by kernel_rfl) (fun _ _ _ h => h) (Or.inl ⟨by rfl, fun wx hx => by go_simp⟩) hT0 ?_
                        try dsimp only
                        try simp only [Act.put, List.getElem_toArray, List.getElem_cons_succ, List.getElem_cons_zero, List.setIfInBounds_toArray, List.set_cons_zero, List.set_cons_succ]
                        refine wpAnyH_take (i := 1) (v := (.slice (some ⟨b0, off, none⟩) m c)) rfl (by kernel_rfl) (by kernel_rfl) (by kernel_rfl) (fun _ _ _ h => h) (Or.inl ⟨by rfl, fun wx hx => by have hx1 := hx.1; go_simp⟩) hT0 ?_
                        try dsimp only
                        try simp only [Act.put, List.getElem_toArray, List.getElem_cons_succ, List.getElem_cons_zero, List.setIfInBounds_toArray, List.set_cons_zero, List.set_cons_succ]
                        refine wpAnyH_take (i := 2) (v := (.int .i64 ((j : Int) + 1))) rfl (by kernel_rfl) (by kernel_rfl) (by kernel_rfl) (fun _ _ _ h => h) (Or.inl ⟨by rfl, fun wx hx => by go_simp⟩) hT0 ?_
                        try dsimp only
                        try simp only [Act.put, List.getElem_toArray, List.getElem_cons_succ, List.getElem_cons_zero, List.setIfInBounds_toArray, List.set_cons_zero, List.set_cons_succ]
                        refine wpAnyH_take (i := 3) (v := (.int .i64 j)) rfl (by kernel_rfl) (by kernel_rfl) (by kernel_rfl) (fun _ _ _ h => h) (Or.inl ⟨by rfl, fun wx hx => by go_simp⟩) hT0 ?_
                        try dsimp only
                        try simp only [Act.put, List.getElem_toArray, List.getElem_cons_succ, List.getElem_cons_zero, List.setIfInBounds_toArray, List.set_cons_zero, List.set_cons_succ]
                        refine wpAnyH_take (i := 4) (v := (.pointer (some ⟨b0, off + j * 32, none⟩))) rfl (by kernel_rfl) (by kernel_rfl) (by kernel_rfl) (fun _ _ _ h => h) (Or.inl ⟨by rfl, fun wx hx => by go_simp⟩) hT0 ?_
                        try dsimp only
                        try simp only [Act.put, List.getElem_toArray, List.getElem_cons_succ, List.getElem_cons_zero, List.setIfInBounds_toArray, List.set_cons_zero, List.set_cons_succ]
                        refine wpAnyH_take (i := 5) (v := (.agg YP)) rfl (by kernel_rfl) (by kernel_rfl) (by kernel_rfl) (fun _ _ _ h => h) (yieldsIf_load_it_mid (by rfl) _ rfl _ _ rfl YP _ HYP.out (fun wx hx => hx.2.1)) hT0 ?_
                        try dsimp only
                        try simp only [Act.put, List.getElem_toArray, List.getElem_cons_succ, List.getElem_cons_zero, List.setIfInBounds_toArray, List.set_cons_zero, List.set_cons_succ]
                        refine wpAnyH_take (i := 6) (v := (.agg Y)) rfl (by kernel_rfl) (by kernel_rfl) (by kernel_rfl) (fun _ _ _ h => h) (yieldsIf_load_it (by rfl) _ rfl _ rfl Y _ HY.out (fun wx hx => hx.2.2)) hT0 ?_
                        try dsimp only
                        try simp only [Act.put, List.getElem_toArray, List.getElem_cons_succ, List.getElem_cons_zero, List.setIfInBounds_toArray, List.set_cons_zero, List.set_cons_succ]
                        refine wpAnyH_all (rs := [7]) (by kernel_rfl) (by simp) ?_
                        intro j hj
                        simp only [List.mem_cons, List.not_mem_nil, or_false] at hj
                        subst hj
                        refine wpOp_of_wp rfl rfl ?_
                        go_simp
                        refine (ahead_any y x YP Y HYP.out HY.out wz.drew).mono ?_
                        rintro e w9 ⟨rfl, hb9⟩
                        rw [hav]
                        have HB9 : Hid (Below w.heap.size w w9) := bnext HBz.out (below_drawn' hb9)
                        have GP9 : Hid (w9.heap[w.heap.size]? = some (.cells #[.int .i64 fk, .slice (some ⟨b0, off, none⟩) m c] 31)) := keep (below_drawn' hb9) GPz.out
                        have hT1 : (fun w' : World => w'.cell? ⟨w.heap.size, 1, none⟩ = some (.slice (some ⟨b0, off, none⟩) m c) ∧ w'.rangeAt b0 (off + j * 32) y.cells ∧ w'.heap[wr.heap.size]? = some (.cells Y 114)) w9 := ⟨cell_keep (below_drawn' hb9) z1, range_below (below_drawn' hb9) HBLT.out rz.out, keep (below_drawn' hb9) gz.out⟩
                        refine ⟨hT1, ?_⟩
                        try dsimp only
                        try simp only [Act.put, List.getElem_toArray, List.getElem_cons_succ, List.getElem_cons_zero, List.setIfInBounds_toArray, List.set_cons_zero, List.set_cons_succ]
                        refine wpAnyH_take (i := 8) (v := (.bool av)) rfl (by kernel_rfl) (by kernel_rfl) (by kernel_rfl) (fun _ _ _ h => h) (Or.inl ⟨by rfl, fun wx hx => by go_simp⟩) hT1 ?_
                        try dsimp only
                        try simp only [Act.put, List.getElem_toArray, List.getElem_cons_succ, List.getElem_cons_zero, List.setIfInBounds_toArray, List.set_cons_zero, List.set_cons_succ]
                        refine wpAnyH_done (by kernel_rfl) ?_ _
                        clear hb9 z1 hT0 hT1
                        cases av with
                        | true =>
                          have HF2 : Hid (fairTo t fk l (j + 1 + 1)) := fun q hq => by
                            by_cases e : q = j + 1
                            · rw [e]; exact HOK.out
                            · exact HF.out q (by omega)
                          go_wp2
                          go_roundw
                          case rel => exact ⟨j + 1 + 1, by omega, by go_num, HF2.out, HB9.out, GP9.out⟩
                          case measure => simp [intOf]; omega
                        | false =>
                          have HE : Hid (fair t up fk l = false) := fair_bad (j + 1) (by omega) HOK.out
                          go_wp2
                          go_ret
                          exact ⟨by rw [HE.out]; rfl, HB9.out⟩
          · have ha' : isNd t x.leaf = false := by simpa using ha
            have HE : Hid (fair t up fk l = false) := fair_bad i (by omega) (by simp [okAt, hx, okIt, ha'])
            clear hx
            go_wp2_with (first | (refine load_it_mid rfl _ rfl _ _ rfl x (by exact rg.out) ?_; intro Y hY; have m0 := hY.get0; have m1 := hY.get1; have m2 := hY.get2; have HY : Hid (IsIt Y x) := hY; clear hY) | (refine alloc_it rfl rfl ?_; intro Z hZ0; have hZ : Hid (IsIt Z It.zero) := hZ0; clear hZ0) | (refine store_it_new rfl _ _ rfl Y _ _ rfl rfl (by simp) HY.out (by exact hZ.out) ?_) | (go_at_call 54; refine (isNode_any _ _ _ _ t (HTr2.out.below (by exact below_alloc _ _)) _).mono ?_; rintro e wA ⟨rfl, hwA⟩; subst hwA; rw [ha']))
            go_ret
            exact ⟨by rw [HE.out]; rfl, bnext HB.out (below_alloc _ _)⟩
        · obtain rfl : i = m := by omega
          have HE : Hid (fair t up fk l = true) := fair_yes hnd HUP.out (by rw [hm]; exact HF.out)
          go_wp2
          go_ret
          exact ⟨by rw [HE.out]; rfl, HB.out⟩
    · have HE : Hid (fair t n fk l = false) := fair_no fun ⟨_, h2, _⟩ => hn (by rw [← HUP.out]; exact h2)
      have hbb : (up == n) = false := by simp [hn]
      have hbc : (up != n) = true := by simp [hn]
      go_enter Tryz.func85, Tryz.ntmps85
      go_wp2_with (go_at_call 54; refine (isNode_any _ _ _ _ t HT1.out _).mono ?_; rintro e wA ⟨rfl, hwA⟩; subst hwA; rw [hnd])
      go_quiet (fail)
      go_wp2
      go_ret
      exact ⟨by rw [HE.out]; rfl, below_drawn (below_alloc _ _) _⟩
  · have hnd' : isNd t fr = false := by simpa using hnd
    have HE : Hid (fair t n fr l = false) := fair_no fun ⟨h, _⟩ => hnd h
    go_enter Tryz.func85, Tryz.ntmps85
    go_wp2_with (go_at_call 54; refine (isNode_any _ _ _ _ t HT1.out _).mono ?_; rintro e wA ⟨rfl, hwA⟩; subst hwA; rw [hnd'])
    go_quiet (fail)
    go_wp2
    go_ret
    exact ⟨by rw [HE.out]; rfl, below_drawn (below_alloc _ _) _⟩
end Go.Proofs.YtpglbakcjihohaaGreat
