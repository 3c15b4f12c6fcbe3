/-
  Own texts, laid together: 'living', 'stored', 'Items', 'Watermark' of the document's store. An answer of P12 as numbers and as cells; laws of the walk for it; what is asked, as plain functions. The document's Ask, for every node and windows. One node of the document's store changed: what stays. The document's Ingest, for every node, time, key and value. The document's Advance, for every node and time. 'again', and the document's Sync and Crash.
-/
import Derived.Test.YtpglbakcjihohaaGreatRows
import Derived.Test.YtpglbakcjihohaaGreatPart2
set_option linter.unusedSimpArgs false
set_option linter.unusedVariables false
set_option linter.deprecated false
/-! 'living', 'stored', 'Items', 'Watermark' of the document's store. -/
namespace Go.Proofs.YtpglbakcjihohaaGreat
open Go.RowKit
set_option maxRecDepth 100000

/-- What a node has as it lives, and as it is stored. -/
def lvg (t : List Int) (d : Nd) (n : Nat) : List It := if isLf t n = true then known n d.lev d.lcl else d.items
def std (t : List Int) (d : Nd) (n : Nat) : List It := if isLf t n = true then known n d.kev d.kcl else d.saved
def lvAt (t : List Int) (D : List Nd) (n : Int) : List It := if isNd t n = true then ((D[n.toNat]?).map fun d => lvg t d n.toNat).getD [] else []
def wmAt (t : List Int) (D : List Nd) (n : Int) : Int := if wrg t n = 0 then ((D[n.toNat]?).map fun d => d.lmk).getD 0 else -1
theorem itOf_ok {l : List Ev3} (h : EvOk l) (n : Int) (hn : fitsI n) (cl : Nat → Bool) (k : Nat) (hk : k < 20) (hl : l.length ≤ 1000000000) : (itOf n l cl k).Ok := by
  refine ⟨hn, ⟨?_, ?_⟩, ⟨?_, ?_⟩, skOf_ok _ fun e he => ?_⟩
  · show -9223372036854775808 ≤ (k : Int); omega
  · show (k : Int) ≤ 9223372036854775807; omega
  · show -9223372036854775808 ≤ ((evK l k).length : Int); omega
  · show ((evK l k).length : Int) ≤ 9223372036854775807; have := evK_len l k; omega
  · have := evK_ok h k l.length e; rw [List.take_length] at this; exact this he
theorem known_ok {l : List Ev3} (h : EvOk l) (n : Int) (hn : fitsI n) (cl : Nat → Bool) (hl : l.length ≤ 1000000000) : AllOkI (known n l cl) := fun i x hx => by
  have hm := List.mem_of_getElem? hx
  simp only [known, knownTo, List.mem_map, List.mem_filter, List.mem_range] at hm
  obtain ⟨k, ⟨hk, _⟩, rfl⟩ := hm
  exact itOf_ok h n hn cl k hk hl
theorem known_len (n : Int) (l : List Ev3) (cl : Nat → Bool) : (known n l cl).length ≤ 20 := knownTo_len n l cl 20
theorem lvg_len {t : List Int} {d : Nd} {n : Nat} (ok : d.Ok) : (lvg t d n).length ≤ 160 := by
  unfold lvg; split
  · have := known_len n d.lev d.lcl; omega
  · exact ok.li
theorem std_len {t : List Int} {d : Nd} {n : Nat} (ok : d.Ok) : (std t d n).length ≤ 160 := by
  unfold std; split
  · have := known_len n d.kev d.kcl; omega
  · exact ok.ls
theorem lvg_ok {t : List Int} {d : Nd} {n : Nat} (ok : d.Ok) (hn : n < 8) (hl : d.lev.length ≤ 1000000000) : AllOkI (lvg t d n) := by
  unfold lvg; split
  · exact known_ok ok.lev n ⟨by omega, by omega⟩ _ hl
  · exact ok.items
theorem std_ok {t : List Int} {d : Nd} {n : Nat} (ok : d.Ok) (hn : n < 8) (hl : d.kev.length ≤ 1000000000) : AllOkI (std t d n) := by
  unfold std; split
  · exact known_ok ok.kev n ⟨by omega, by omega⟩ _ hl
  · exact ok.saved
theorem Own.sl {α : Type} {C : Cl α} {w : World} {B : Nat} {e : TypeId} {s : Sl} {l : List α} (h : Own C w B e s.val l) : l.length = s.n ∧ RowsAt C w s.p l := by
  obtain ⟨p, c, hv, _, _, hr⟩ := h.form
  have e : s.p = p ∧ s.n = l.length ∧ s.c = c := by simpa [Sl.val] using hv
  exact ⟨e.2.1.symm, by rw [e.1]; exact hr⟩
theorem info_lf (c : LfC) : (Tryz.prog.info? 96).map (·.size) = some c.cells.length := by rw [c.len]; kernel_rfl
section
variable {ops : Array Oper} {rest : List Oper} {o : Oper} {a : Act} {w : World} {Q : Exit → Act → World → Prop} {K : Act → World → Prop}
theorem wp_load_lf_mid (x : Operand) (ho : o.op = .load 96 x) (g off : Nat) (hx : a.eval x = .pointer (some ⟨g, off, none⟩)) (c : LfC)
    (hg : w.rangeAt g off c.cells) (h : ∀ A, IsLfC A c → K (a.put o.dst (.agg A)) w) : o.wp Tryz.prog a w K Q :=
  wp_load_mid _ x ho g off hx c.cells _ hg Tryz.underlying96 rfl (info_lf c) (h _ (by simp [IsLfC]))
theorem load_lf_mid (hgd : o.guard = none) (x : Operand) (ho : o.op = .load 96 x) (g off : Nat) (hx : a.eval x = .pointer (some ⟨g, off, none⟩)) (c : LfC)
    (hg : w.rangeAt g off c.cells) (h : ∀ A, IsLfC A c → wpList Tryz.prog ops Q rest (a.put o.dst (.agg A)) w) : wpList Tryz.prog ops Q (o :: rest) a w :=
  wpList_plain hgd fun _ hK => wp_load_lf_mid x ho g off hx c hg fun A hA => hK _ _ (h A hA)
end
theorem Own.live {w : World} {B : Nat} {e : TypeId} {gn n cn : Nat} {C : List NdC} (h : Own clNd w B e (.slice (some ⟨gn, 0, none⟩) n cn) C) (k : Nat) (c : NdC) (hc : C[k]? = some c) : w.rangeAt gn (k * 46) c.live.cells := fun j u hu => by
  have hj : j < 22 := by rw [← c.live.len]; exact (List.getElem?_eq_some_iff.1 hu).1
  exact h.cell_at k c hc j u (by show c.cells[j]? = _; rw [c.get_live j hj]; exact hu)
theorem Own.kept {w : World} {B : Nat} {e : TypeId} {gn n cn : Nat} {C : List NdC} (h : Own clNd w B e (.slice (some ⟨gn, 0, none⟩) n cn) C) (k : Nat) (c : NdC) (hc : C[k]? = some c) : w.rangeAt gn (k * 46 + 22) c.kept.cells := fun j u hu => by
  have hj : j < 22 := by rw [← c.kept.len]; exact (List.getElem?_eq_some_iff.1 hu).1
  have := h.cell_at k c hc (22 + j) u (by show c.cells[22 + j]? = _; rw [c.get_kept j hj]; exact hu)
  rw [Nat.add_assoc]; exact this

set_option maxHeartbeats 1000000 in
theorem living_any (w : World) (own : Ghost) (B0 bw : Nat) (t : List Int) (wid : Int) (D : List Nd) (vt vn : Sl) (C : List NdC) (h : WRep w own B0 bw t wid D vt vn C) (k : Nat) (c : NdC) (d : Nd) (hc : C[k]? = some c) (hd : D[k]? = some d) (hl : d.lev.length ≤ 1000000000) :
    Calls Tryz.prog 73 #[.pointer (some ⟨bw, 0, none⟩), .int .i64 k] w fun e w' => ∃ s : Sl, e = .returned (.slice s.p s.n s.c) ∧ (lvg t d k).length = s.n ∧ RowsAt clIt w' s.p (lvg t d k) ∧ Below w.heap.size w w' ∧ (s.p = c.vi.p ∨ ∀ b off, s.p = some ⟨b, off, none⟩ → w.heap.size ≤ b) := by
  have hk : k < t.length := by rw [← h.lc]; exact (List.getElem?_eq_some_iff.1 hc).1
  have h8 := h.T.le
  obtain ⟨gn, cn, rfl⟩ := h.row
  have c2 := h.rowcell
  have HT : Hid (TreeAt w bw vt.p vt.c t) := h.treeAt
  have rep := h.rep k c d hc hd
  have ok := h.ok k d hd
  have hnodes : Own clNd w B0 98 (.slice (some ⟨gn, 0, none⟩) t.length cn) C := h.nodes
  obtain ⟨N, hN⟩ : ∃ N, t.length = N := ⟨_, rfl⟩
  rw [hN] at hk h8 hnodes
  have c2' : w.cell? ⟨bw, 2, none⟩ = some (.slice (some ⟨gn, 0, none⟩) N cn) := by rw [← hN]; exact c2
  have HRP : Hid (NdRep w own B0 k c d ∧ d.Ok) := ⟨rep, ok⟩
  have HL : Hid (w.rangeAt gn (k * 46) c.live.cells) := hnodes.live k c hc
  have c44 : w.cell? ⟨gn, k * 46 + 44, none⟩ = some (.slice c.vi.p c.vi.n c.vi.c) := hnodes.cell_at k c hc 44 _ c.get_vi
  clear h c2 rep ok hnodes hc
  by_cases h1 : isLf t k = true
  · go_enter Tryz.func73, Tryz.ntmps73
    go_wp2_with (first | (go_at_call 75; refine (isLeaf_any _ _ _ _ t HT.out _ (by omega)).mono ?_; rintro e w1 ⟨rfl, rfl⟩; rw [h1]) | (refine load_lf_mid rfl _ rfl _ _ rfl c.live (by exact HL.out) ?_; intro A hA))
    have HLV : Hid (lvg t d k = known k d.lev c.live.cl) := by unfold Hid lvg; rw [if_pos h1, HRP.out.1.lcl]
    refine (known_any bw k ⟨by omega, by omega⟩ c.live A hA _ d.lev HRP.out.1.lev.sl.1 HRP.out.1.lev.sl.2 HRP.out.2.lev (by have := HRP.out.1.lev.sl.1; omega)).mono ?_
    rintro e w2 ⟨v, rfl, hown, hb⟩
    obtain ⟨p, cp, rfl, _, _, hr⟩ := hown.form
    go_wp2
    go_ret
    exact ⟨⟨p, _, cp⟩, rfl, by rw [HLV.out], by rw [HLV.out]; exact hr, hb, .inr fun b off e => (hown.lt b (by have e' : p = some ⟨b, off, none⟩ := e; rw [e']; rfl)).1⟩
  · have h1' : isLf t k = false := by simpa using h1
    have HLV : Hid (lvg t d k = d.items) := by unfold Hid lvg; rw [if_neg h1]
    have HI := HRP.out.1.items.sl
    have HI' : Hid (d.items.length = c.vi.n ∧ RowsAt clIt w c.vi.p d.items) := HI
    clear HI
    go_enter Tryz.func73, Tryz.ntmps73
    go_wp2_with (go_at_call 75; refine (isLeaf_any _ _ _ _ t HT.out _ (by omega)).mono ?_; rintro e w1 ⟨rfl, rfl⟩; rw [h1'])
    go_ret
    exact ⟨c.vi, rfl, by rw [HLV.out]; exact HI'.out.1, by rw [HLV.out]; exact HI'.out.2, Below.refl _ _, .inl rfl⟩
set_option maxHeartbeats 1000000 in
theorem stored_any (w : World) (own : Ghost) (B0 bw : Nat) (t : List Int) (wid : Int) (D : List Nd) (vt vn : Sl) (C : List NdC) (h : WRep w own B0 bw t wid D vt vn C) (k : Nat) (c : NdC) (d : Nd) (hc : C[k]? = some c) (hd : D[k]? = some d) (hl : d.kev.length ≤ 1000000000) :
    Calls Tryz.prog 82 #[.pointer (some ⟨bw, 0, none⟩), .int .i64 k] w fun e w' => ∃ s : Sl, e = .returned (.slice s.p s.n s.c) ∧ (std t d k).length = s.n ∧ RowsAt clIt w' s.p (std t d k) ∧ Below w.heap.size w w' ∧ (s.p = c.vs.p ∨ ∀ b off, s.p = some ⟨b, off, none⟩ → w.heap.size ≤ b) := by
  have hk : k < t.length := by rw [← h.lc]; exact (List.getElem?_eq_some_iff.1 hc).1
  have h8 := h.T.le
  obtain ⟨gn, cn, rfl⟩ := h.row
  have c2 := h.rowcell
  have HT : Hid (TreeAt w bw vt.p vt.c t) := h.treeAt
  have rep := h.rep k c d hc hd
  have ok := h.ok k d hd
  have hnodes : Own clNd w B0 98 (.slice (some ⟨gn, 0, none⟩) t.length cn) C := h.nodes
  obtain ⟨N, hN⟩ : ∃ N, t.length = N := ⟨_, rfl⟩
  rw [hN] at hk h8 hnodes
  have c2' : w.cell? ⟨bw, 2, none⟩ = some (.slice (some ⟨gn, 0, none⟩) N cn) := by rw [← hN]; exact c2
  have HRP : Hid (NdRep w own B0 k c d ∧ d.Ok) := ⟨rep, ok⟩
  have HL : Hid (w.rangeAt gn (k * 46 + 22) c.kept.cells) := hnodes.kept k c hc
  have c44 : w.cell? ⟨gn, k * 46 + 45, none⟩ = some (.slice c.vs.p c.vs.n c.vs.c) := hnodes.cell_at k c hc 45 _ c.get_vs
  clear h c2 rep ok hnodes hc
  by_cases h1 : isLf t k = true
  · go_enter Tryz.func82, Tryz.ntmps82
    go_wp2_with (first | (go_at_call 75; refine (isLeaf_any _ _ _ _ t HT.out _ (by omega)).mono ?_; rintro e w1 ⟨rfl, rfl⟩; rw [h1]) | (refine load_lf_mid rfl _ rfl _ _ rfl c.kept (by exact HL.out) ?_; intro A hA))
    have HLV : Hid (std t d k = known k d.kev c.kept.cl) := by unfold Hid std; rw [if_pos h1, HRP.out.1.kcl]
    refine (known_any bw k ⟨by omega, by omega⟩ c.kept A hA _ d.kev HRP.out.1.kev.sl.1 HRP.out.1.kev.sl.2 HRP.out.2.kev (by have := HRP.out.1.kev.sl.1; omega)).mono ?_
    rintro e w2 ⟨v, rfl, hown, hb⟩
    obtain ⟨p, cp, rfl, _, _, hr⟩ := hown.form
    go_wp2
    go_ret
    exact ⟨⟨p, _, cp⟩, rfl, by rw [HLV.out], by rw [HLV.out]; exact hr, hb, .inr fun b off e => (hown.lt b (by have e' : p = some ⟨b, off, none⟩ := e; rw [e']; rfl)).1⟩
  · have h1' : isLf t k = false := by simpa using h1
    have HLV : Hid (std t d k = d.saved) := by unfold Hid std; rw [if_neg h1]
    have HI := HRP.out.1.saved.sl
    have HI' : Hid (d.saved.length = c.vs.n ∧ RowsAt clIt w c.vs.p d.saved) := HI
    clear HI
    go_enter Tryz.func82, Tryz.ntmps82
    go_wp2_with (go_at_call 75; refine (isLeaf_any _ _ _ _ t HT.out _ (by omega)).mono ?_; rintro e w1 ⟨rfl, rfl⟩; rw [h1'])
    go_ret
    exact ⟨c.vs, rfl, by rw [HLV.out]; exact HI'.out.1, by rw [HLV.out]; exact HI'.out.2, Below.refl _ _, .inl rfl⟩
set_option maxHeartbeats 1000000 in
/-- The document's Items: of no node: nothing; else what it has as it lives, in a list of its own. -/
theorem rItems_any (w : World) (own : Ghost) (B0 bw : Nat) (t : List Int) (wid : Int) (D : List Nd) (vt vn : Sl) (C : List NdC) (h : WRep w own B0 bw t wid D vt vn C) (n : Int) (hl : ∀ (k : Nat) (d : Nd), D[k]? = some d → d.lev.length ≤ 1000000000) :
    Calls Tryz.prog 38 #[.pointer (some ⟨bw, 0, none⟩), .int .i64 n] w fun e w' => ∃ v, e = .returned v ∧ Own clIt w' w.heap.size 114 v (lvAt t D n) ∧ Below w.heap.size w w' := by
  have HT : Hid (TreeAt w bw vt.p vt.c t) := h.treeAt
  have HW : Hid (WRep w own B0 bw t wid D vt vn C) := h
  by_cases h1 : isNd t n = true
  · obtain ⟨k, c, d, rfl, hk, hc, hd, _, ok⟩ := h.at n h1
    have hlen := lvg_len (t := t) (n := k) ok
    have HL := hl k d hd
    have HE : Hid (lvAt t D k = lvg t d k) := by unfold Hid lvAt; rw [if_pos h1]; simp [hd]
    clear h hl
    go_enter Tryz.func38, Tryz.ntmps38
    go_wp2_with (go_at_call 54; refine (isNode_any _ _ _ _ t HT.out _).mono ?_; rintro e w1 ⟨rfl, rfl⟩; rw [h1])
    refine (living_any _ own B0 bw t wid D vt vn C HW.out k c d hc hd HL).mono ?_
    rintro e w1 ⟨⟨p, m, cp⟩, rfl, hm, hr, hb, _⟩
    go_wp2_with fail
    refine (ritems_any (lvg t d k) p m cp _ hm hr (by show m ≤ _; have : (lvg t d k).length = m := hm; omega)).mono ?_
    rintro e w2 ⟨v, rfl, ho, hb2⟩
    go_wp2
    go_ret
    exact ⟨_, rfl, by rw [HE.out]; exact ho.mono hb.size, bnext hb hb2⟩
  · have h1' : isNd t n = false := by simpa using h1
    have HE : Hid (lvAt t D n = []) := by unfold Hid lvAt; rw [if_neg h1]
    clear h hl
    go_enter Tryz.func38, Tryz.ntmps38
    go_wp2_with (go_at_call 54; refine (isNode_any _ _ _ _ t HT.out _).mono ?_; rintro e w1 ⟨rfl, rfl⟩; rw [h1'])
    go_ret
    exact ⟨_, rfl, by rw [HE.out]; exact Own.nil _ _ _, Below.refl _ _⟩
set_option maxHeartbeats 1000000 in
theorem rWatermark_any (w : World) (own : Ghost) (B0 bw : Nat) (t : List Int) (wid : Int) (D : List Nd) (vt vn : Sl) (C : List NdC) (h : WRep w own B0 bw t wid D vt vn C) (n : Int) :
    Calls Tryz.prog 42 #[.pointer (some ⟨bw, 0, none⟩), .int .i64 n] w fun e w' => e = .returned (.int .i64 (wmAt t D n)) ∧ w' = w := by
  have HT : Hid (TreeAt w bw vt.p vt.c t) := h.treeAt
  have h8 := h.T.le
  by_cases h1 : wrg t n = 0
  · have h2 : isNd t n = true := by
      unfold wrg at h1
      split at h1
      · assumption
      · omega
    obtain ⟨k, c, d, rfl, hk, hc, hd, rep, ok⟩ := h.at n h2
    obtain ⟨gn, cn, rfl⟩ := h.row
    have hnodes : Own clNd w B0 98 (.slice (some ⟨gn, 0, none⟩) t.length cn) C := h.nodes
    have c2 := h.rowcell
    have c21 : w.cell? ⟨gn, k * 46 + 21, none⟩ = some (.int .i64 c.live.mark) := hnodes.cell_at k c hc 21 _ (by show c.cells[21]? = _; rw [c.get_live 21 (by omega)]; exact c.live.getm)
    rw [rep.lmk] at c21
    have HE : Hid (wmAt t D k = d.lmk) := by unfold Hid wmAt; rw [if_pos h1]; simp [hd]
    obtain ⟨N, hN⟩ : ∃ N, t.length = N := ⟨_, rfl⟩
    have c2' : w.cell? ⟨bw, 2, none⟩ = some (.slice (some ⟨gn, 0, none⟩) N cn) := by rw [← hN]; exact c2
    rw [hN] at hk
    clear h rep hnodes c2 h2
    go_enter Tryz.func42, Tryz.ntmps42
    go_wp2_with (go_at_call 47; refine (wrong_any _ _ _ _ t HT.out _ h8).mono ?_; rintro e w1 ⟨rfl, rfl⟩; rw [h1])
    go_ret
    exact ⟨by rw [HE.out]; rfl, rfl⟩
  · have HE : Hid (wmAt t D n = -1) := by unfold Hid wmAt; rw [if_neg h1]
    obtain ⟨q, hq⟩ : ∃ q, wrg t n = q := ⟨_, rfl⟩
    rw [hq] at h1
    clear h
    go_enter Tryz.func42, Tryz.ntmps42
    go_wp2_with (go_at_call 47; refine (wrong_any _ _ _ _ t HT.out _ h8).mono ?_; rintro e w1 ⟨rfl, rfl⟩; rw [hq])
    go_ret
    exact ⟨by rw [HE.out]; rfl, rfl⟩
end Go.Proofs.YtpglbakcjihohaaGreat

/-! An answer of P12 as numbers and as cells; laws of the walk for it; what is asked, as plain functions. -/
namespace Go.Proofs.YtpglbakcjihohaaGreat
open Go.RowKit
set_option maxRecDepth 100000

structure An where
  sk : Sk
  sealed : Bool
  closed : Int
def An.cells (x : An) : List Value := x.sk.cells.toList ++ [.bool x.sealed, .int .i64 x.closed]
theorem An.len (x : An) : x.cells.length = 30 := by simp [An.cells, Sk.size_cells]
theorem An.one (x : An) : ∀ v ∈ x.cells, v.oneCell' = true := fun v hv => by
  simp only [An.cells, List.mem_append, List.mem_cons, List.not_mem_nil, or_false] at hv
  rcases hv with hv | rfl | rfl
  · exact x.sk.one v hv
  · rfl
  · rfl
structure An.Ok (x : An) : Prop where
  sk : x.sk.Ok
  closed : fitsI x.closed
def An.zero : An := ⟨Sk.zero, false, 0⟩
theorem An.zero_ok : An.zero.Ok := ⟨Sk.zero_ok, by constructor <;> decide⟩
def IsAn (A : Array Value) (x : An) : Prop := A.toList = x.cells
theorem IsAn.size {A : Array Value} {x : An} (h : IsAn A x) : A.size = 30 := by have := congrArg List.length (show A.toList = x.cells from h); rw [An.len] at this; simpa using this
theorem IsAn.one {A : Array Value} {x : An} (h : IsAn A x) : A.all (·.oneCell') = true :=
  Array.all_eq_true_iff_forall_mem.2 fun v hv => x.one v (by rw [← show A.toList = x.cells from h]; simpa using hv)
theorem isAn_of (x : An) : IsAn x.cells.toArray x := by simp [IsAn]
theorem IsAn.get28 {A : Array Value} {x : An} (h : IsAn A x) : A[28]? = some (.bool x.sealed) := by
  rw [← Array.getElem?_toList, show A.toList = x.cells from h, An.cells, List.getElem?_append_right (by simp [Sk.size_cells])]; simp [Sk.size_cells]
theorem IsAn.get29 {A : Array Value} {x : An} (h : IsAn A x) : A[29]? = some (.int .i64 x.closed) := by
  rw [← Array.getElem?_toList, show A.toList = x.cells from h, An.cells, List.getElem?_append_right (by simp [Sk.size_cells])]; simp [Sk.size_cells]
theorem IsAn.range0 {A : Array Value} {x : An} {w : World} {g : Nat} {t : TypeId} (h : IsAn A x) (hg : w.heap[g]? = some (.cells A t)) : w.rangeAt g 0 x.sk.cells.toList := fun j v hv => by
  rw [cell_of_row _ _ _ _ _ _ hg, Nat.zero_add, ← Array.getElem?_toList, show A.toList = x.cells from h, An.cells, List.getElem?_append_left (List.getElem?_eq_some_iff.1 hv).1]; exact hv
theorem IsAn.setSealed {A : Array Value} {x : An} (h : IsAn A x) (b : Bool) : IsAn (A.setIfInBounds 28 (.bool b)) { x with sealed := b } := by
  show (A.setIfInBounds 28 _).toList = _
  rw [set_list, show A.toList = x.cells from h]
  simp [An.cells, Sk.size_cells]
theorem IsAn.setClosed {A : Array Value} {x : An} (h : IsAn A x) (n : Int) : IsAn (A.setIfInBounds 29 (.int .i64 n)) { x with closed := n } := by
  show (A.setIfInBounds 29 _).toList = _
  rw [set_list, show A.toList = x.cells from h]
  simp [An.cells, Sk.size_cells]
theorem IsAn.setSk {A R : Array Value} {x : An} {s : Sk} (h : IsAn A x) (hR : IsSk R s) : IsAn (lay A 0 R.toList) { x with sk := s } := by
  show (lay A 0 R.toList).toList = _
  have e : R.toList.length = 28 := by simpa using hR.size
  simp only [lay, e, show A.toList = x.cells from h, An.cells, List.take_zero, List.nil_append, Nat.zero_add]
  rw [List.drop_append, List.drop_of_length_le (by simp [Sk.size_cells]), show R = s.cells from hR]
  simp [Sk.size_cells]
theorem info_an {A : Array Value} {x : An} (h : IsAn A x) : (Tryz.prog.info? 83).map (·.size) = some A.size := by rw [h.size]; kernel_rfl
theorem zero_an : (Tryz.prog.info? 83).bind (·.zero) = some (.agg An.zero.cells.toArray) := by kernel_rfl
theorem built_an0 : Tryz.prog.built 83 [] = some An.zero.cells.toArray := by kernel_rfl
theorem built_an (s : Sk) : Tryz.prog.built 83 [(0, .agg s.cells)] = some (An.mk s false 0).cells.toArray := by kernel_rfl
theorem built_an' {E : Array Value} {s : Sk} (hE : IsSk E s) : Tryz.prog.built 83 [(0, .agg E)] = some (An.mk s false 0).cells.toArray := by rw [show E = s.cells from hE]; exact built_an s
section
variable {ops : Array Oper} {rest : List Oper} {o : Oper} {a : Act} {w : World} {Q : Exit → Act → World → Prop} {K : Act → World → Prop}
theorem alloc_an (hgd : o.guard = none) (ho : o.op = .alloc 83)
    (h : ∀ Z, IsAn Z An.zero → wpList Tryz.prog ops Q rest (a.put o.dst (.pointer (some ⟨w.heap.size, 0, none⟩))) (w.alloc (.cells Z 83))) : wpList Tryz.prog ops Q (o :: rest) a w :=
  wpList_alloc_z hgd _ ho _ zero_an (h _ (isAn_of _))
theorem build_an (hgd : o.guard = none) (parts : Array (Nat × Operand)) (ho : o.op = .build 83 parts) (x : An)
    (hz : Tryz.prog.built 83 (parts.map fun (i, x) => (i, a.eval x)).toList = some x.cells.toArray)
    (h : ∀ M, IsAn M x → wpList Tryz.prog ops Q rest (a.put o.dst (.agg M)) w) : wpList Tryz.prog ops Q (o :: rest) a w :=
  wpList_build_z hgd _ parts ho _ hz (h _ (isAn_of _))
theorem load_an (hgd : o.guard = none) (x : Operand) (ho : o.op = .load 83 x) (g : Nat) (hx : a.eval x = .pointer (some ⟨g, 0, none⟩)) (A : Array Value) (s : An) (hA : IsAn A s)
    (hg : w.heap[g]? = some (.cells A 83)) (h : wpList Tryz.prog ops Q rest (a.put o.dst (.agg A)) w) : wpList Tryz.prog ops Q (o :: rest) a w :=
  wpList_load_row hgd _ x ho g hx _ A (0, 0) _ hg Tryz.underlying83 rfl (info_an hA) h
theorem store_an {c : Array Value} {g : Nat} (hgd : o.guard = none) (x y : Operand) (ho : o.op = .store 83 x y) (A : Array Value) (s : An)
    (hx : a.eval x = .pointer (some ⟨g, 0, none⟩)) (hy : a.eval y = .agg A) (hA : IsAn A s) (hg : w.heap[g]? = some (.cells c 83)) (hc : c.size = 30)
    (h : wpList Tryz.prog ops Q rest (a.put o.dst undef) (w.setRow g A)) : wpList Tryz.prog ops Q (o :: rest) a w :=
  wpList_store_row hgd _ x y ho g A hx hy _ c hg (info_an hA) (by rw [hA.size, hc]) hA.one h
theorem store_an_new {o0 : World} {c : Array Value} {n : Nat} (hgd : o.guard = none) (x y : Operand) (ho : o.op = .store 83 x y) (A : Array Value) (s z : An)
    (hx : a.eval x = .pointer (some ⟨n, 0, none⟩)) (hy : a.eval y = .agg A) (hn : n = o0.heap.size) (hA : IsAn A s) (hc : IsAn c z)
    (h : wpList Tryz.prog ops Q rest (a.put o.dst undef) (o0.alloc (.cells A 83))) : wpList Tryz.prog ops Q (o :: rest) a (o0.alloc (.cells c 83)) :=
  wpList_store_new hgd x y ho A hx hy hn (info_an hA) (by rw [hA.size, hc.size]) hA.one h
theorem wp_store_sk0 {c : Array Value} {g : Nat} {z : An} (x y : Operand) (ho : o.op = .store 81 x y) (R : Array Value) (s : Sk)
    (hx : a.eval x = .pointer (some ⟨g, 0, none⟩)) (hy : a.eval y = .agg R) (hR : IsSk R s) (hgg : w.heap[g]? = some (.cells c 83)) (hc : IsAn c z)
    (h : ∀ M, IsAn M { z with sk := s } → K (a.put o.dst undef) (w.setRow g M)) : o.wp Tryz.prog a w K Q :=
  wp_store_lay 81 x y ho g 0 R hx hy _ c hgg (info_sk hR) (by rw [hR.size, hc.size]; decide) hR.one (h _ (hc.setSk hR))
end
/-- The answer of a function whose results are an answer in memory and a number. -/
theorem results_an {fn : Func} {p q : Tmp} (h : fn.results = #[.cell p 83, .tmp q]) (tmps : Array Value) (w : World) (g : Nat) (A : Array Value) (s : An) (hA : IsAn A s)
    (hp : tmps.getD p undef = .pointer (some ⟨g, 0, none⟩)) (hg : w.heap[g]? = some (.cells A 83)) : (results fn tmps).run Tryz.prog w = .ok (.tuple #[.agg A, tmps.getD q undef]) w := by
  have hl := run_loadVar_row (P := Tryz.prog) w g 83 83 A (0, 0) _ hg Tryz.underlying83 rfl (info_an hA)
  have hp' : tmps[p]?.getD undef = .pointer (some ⟨g, 0, none⟩) := by simpa using hp
  unfold results
  simp [h, hp', asAddr, hl]

/-! ### What is asked -/
def inRg (low high : Int) (x : It) : Bool := decide (low ≤ x.win ∧ x.win ≤ high)
def skAll (l : List It) : Sk := l.foldl (fun s x => mrg s x.sk) Sk.empty
def cnt (l : List It) : Nat := (l.filter (·.fin)).length
/-- How many leaves are under a node (of the first m). -/
def lvU (t : List Int) (n : Int) (m : Nat) : Nat := ((List.range m).filter fun i : Nat => isLf t i && under t i n).length
def askErr (t : List Int) (n low high : Int) : Int := if isNd t n = true then (if isRg low high = true then 0 else 8) else 2
def askAn (t : List Int) (l : List It) (n low high : Int) : An := if askErr t n low high = 0 then
    ⟨skAll (l.filter (inRg low high)), decide ((cnt (l.filter (inRg low high)) : Int) = (lvU t n t.length : Int) * (high - low + 1)), cnt (l.filter (inRg low high))⟩ else An.zero
theorem skAll_append (l : List It) (x : It) : skAll (l ++ [x]) = mrg (skAll l) x.sk := by simp [skAll]
theorem cnt_append (l : List It) (x : It) : cnt (l ++ [x]) = cnt l + (if x.fin = true then 1 else 0) := by
  unfold cnt; rw [List.filter_append]
  cases h : x.fin <;> simp [h]
theorem filt_take (l : List It) (low high : Int) (i : Nat) (x : It) (h : l[i]? = some x) : (l.take (i + 1)).filter (inRg low high) = (l.take i).filter (inRg low high) ++ (if inRg low high x = true then [x] else []) := by
  rw [List.take_add_one, h]
  cases hb : inRg low high x <;> simp [List.filter_append, hb]
theorem skAll_ok {l : List It} (h : ∀ x ∈ l, x.Ok) : (skAll l).Ok := by
  suffices H : ∀ (l : List It) (s : Sk), s.Ok → (∀ x ∈ l, x.Ok) → (l.foldl (fun s x => mrg s x.sk) s).Ok from H l _ Sk.empty_ok h
  intro l
  induction l with
  | nil => intro s hs _; exact hs
  | cons x l ih => intro s hs h; exact ih _ (mrg_ok hs (h x (by simp)).sk) fun y hy => h y (by simp [hy])
theorem cnt_le (l : List It) : cnt l ≤ l.length := List.length_filter_le _ _
theorem lvU_succ (t : List Int) (n : Int) (m : Nat) : lvU t n (m + 1) = lvU t n m + (if (isLf t m && under t m n) = true then 1 else 0) := by
  unfold lvU; rw [List.range_succ, List.filter_append]
  cases h : (isLf t m && under t m n) <;> simp [h]
theorem lvU_le (t : List Int) (n : Int) (m : Nat) : lvU t n m ≤ m := by
  have := List.length_filter_le (fun i : Nat => isLf t i && under t i n) (List.range m)
  simpa [lvU] using this
end Go.Proofs.YtpglbakcjihohaaGreat

/-! The document's Ask, for every node and windows. -/
namespace Go.Proofs.YtpglbakcjihohaaGreat
open Go.RowKit
set_option maxRecDepth 100000

theorem It.get0 (x : It) : x.cells[0]? = some (.int .i64 x.leaf) := by simp [It.cells]
theorem It.get1 (x : It) : x.cells[1]? = some (.int .i64 x.win) := by simp [It.cells]
theorem It.get2 (x : It) : x.cells[2]? = some (.int .i64 x.ver) := by simp [It.cells]
theorem It.get3 (x : It) : x.cells[3]? = some (.bool x.fin) := by simp [It.cells]
theorem It.get4 (x : It) (i : Nat) : x.cells[4 + i]? = x.sk.cells.toList[i]? := by rw [Nat.add_comm]; simp [It.cells]
theorem It.range_sk (x : It) {w : World} {b o : Nat} (h : w.rangeAt b o x.cells) : w.rangeAt b (o + 4) x.sk.cells.toList := fun i u hu => by
  rw [Nat.add_assoc]; exact h (4 + i) u (by rw [x.get4 i]; exact hu)
/-- What Ask has in memory while it goes over the items. -/
structure AW (w wr : World) (ga : Nat) (Z M : Array Value) (p : Option Addr) (L : List It) : Prop where
  below : Below w.heap.size w wr
  z : wr.heap[w.heap.size]? = some (.cells Z 83)
  m : wr.heap[ga]? = some (.cells M 83)
  rows : RowsAt clIt wr p L
  far : ∀ b off, p = some ⟨b, off, none⟩ → b ≠ ga
theorem AW.row {w wr : World} {ga : Nat} {Z M M' : Array Value} {p : Option Addr} {L : List It} (h : AW w wr ga Z M p L) (hg : w.heap.size < ga) : AW w (wr.setRow ga M') ga Z M' p L :=
  ⟨below_setRow _ h.below (by omega), setRow_oth (by omega) h.z, setRow_blk h.m, h.rows.chg (by simp) fun b off e => setRow_other _ _ _ _ (h.far b off e), h.far⟩
theorem AW.next {w wr w' : World} {ga : Nat} {Z M : Array Value} {p : Option Addr} {L : List It} (h : AW w wr ga Z M p L) (hb : Below wr.heap.size wr w') : AW w w' ga Z M p L :=
  ⟨bnext h.below hb, keep hb h.z, keep hb h.m, h.rows.below hb, h.far⟩
theorem AW.cell {w wr : World} {ga : Nat} {Z M : Array Value} {p : Option Addr} {L : List It} (h : AW w wr ga Z M p L) (hg : w.heap.size < ga) (o : Nat) (v : Value) : AW w (wr.setCell ⟨ga, o, none⟩ v) ga Z (M.setIfInBounds o v) p L :=
  ⟨h.below.setCell (by show w.heap.size ≤ ga; omega) _, by rw [heap_setCell_other _ _ _ _ (by show w.heap.size ≠ ga; omega)]; exact h.z, heap_setCell_same _ _ _ _ _ _ h.m, h.rows.chg (by simp) fun b off e => heap_setCell_other _ _ _ _ (by show b ≠ ga; exact h.far b off e), h.far⟩

set_option maxHeartbeats 4000000 in
theorem rAsk_any (w : World) (own : Ghost) (B0 bw : Nat) (t : List Int) (wid : Int) (D : List Nd) (vt vn : Sl) (C : List NdC) (h : WRep w own B0 bw t wid D vt vn C) (n low high : Int) (hl : ∀ (k : Nat) (d : Nd), D[k]? = some d → d.lev.length ≤ 1000000000) :
    Calls Tryz.prog 36 #[.pointer (some ⟨bw, 0, none⟩), .int .i64 n, .int .i64 low, .int .i64 high] w fun e w' => ∃ A, e = .returned (.tuple #[.agg A, .int .i64 (askErr t n low high)]) ∧ IsAn A (askAn t (lvAt t D n) n low high) ∧ Below w.heap.size w w' := by
  have HW : Hid (WRep w own B0 bw t wid D vt vn C) := h
  by_cases h1 : isNd t n = true
  · by_cases h2 : isRg low high = true
    · obtain ⟨k, c, d, rfl, hk, hc, hd, rep, ok⟩ := h.at n h1
      have hlen := lvg_len (t := t) (n := k) ok
      have HL := hl k d hd
      have h8 := h.T.le
      have okL := lvg_ok (t := t) ok (show k < 8 by omega) HL
      have HE : Hid (askErr t k low high = 0) := by unfold Hid askErr; rw [if_pos h1, if_pos h2]
      have HV : Hid (lvAt t D k = lvg t d k) := by unfold Hid lvAt; rw [if_pos h1]; simp [hd]
      have hr0 : 0 ≤ low ∧ high < 20 ∧ low ≤ high := by simpa [isRg] using h2
      obtain ⟨hr0, hr1, hr2⟩ := hr0
      have HVI : Hid (∀ b off, c.vi.p = some ⟨b, off, none⟩ → b < w.heap.size) := fun b off e => (rep.items.lt b (by unfold Sl.val; rw [e]; rfl)).2
      clear h hl rep ok
      go_enter Tryz.func36, Tryz.ntmps36
      go_wp2_with (first | (refine alloc_an rfl rfl ?_; intro Z hZ) | (go_at_call 54; refine (isNode_any _ _ _ _ t (HW.out.below (below_alloc _ _)).treeAt _).mono ?_; rintro e w1 ⟨rfl, rfl⟩; rw [h1]) | (go_at_call 71; refine (isRange_any _ _ _).mono ?_; rintro e w1 ⟨rfl, rfl⟩; rw [h2]))
      refine (rempty_any _).mono ?_
      rintro e w1 ⟨E, rfl, hE, hb1⟩
      go_wp2_with (first | (refine build_an rfl _ rfl ⟨Sk.empty, false, 0⟩ (by refine Eq.trans ?_ (built_an' hE); kernel_rfl) ?_; intro M hM) | (refine alloc_an rfl rfl ?_; intro Z1 hZ1) | (refine store_an_new rfl _ _ rfl M _ _ rfl rfl (by simp) hM (by assumption) ?_))
      have hs1 := hb1.size
      have e9 : (w.alloc (.cells Z 83)).heap.size = w.heap.size + 1 := by simp
      have hga : w.heap.size < w1.heap.size := by omega
      clear e9
      have B1 : Below w.heap.size w (w1.alloc (.cells M 83)) := bnext (bnext (below_alloc _ _) hb1) (below_alloc _ _)
      refine (living_any _ own B0 bw t wid D vt vn C (HW.out.below B1) k c d hc hd HL).mono ?_
      rintro e w3 ⟨⟨p, m, cp⟩, rfl, hm, hr, hb3, hq⟩
      obtain ⟨L, hL⟩ : ∃ L, L = lvg t d k := ⟨_, rfl⟩
      rw [← hL] at hm hr hlen okL
      replace hm : L.length = m := hm
      replace hr : RowsAt clIt w3 p L := hr
      have haw : AW w w3 w1.heap.size Z M p L := by
        refine ⟨bnext B1 hb3, keep hb3 (blk_old (keep hb1 (heap_alloc_new w _))), keep hb3 (heap_alloc_new w1 _), hr, fun b off e eb => ?_⟩
        rcases hq with hq | hq
        · have := HVI.out b off (by rw [← hq]; exact e); omega
        · have := hq b off e; simp at this; omega
      have HZ := hZ.size
      have hM0 : IsAn M ⟨skAll ((L.take 0).filter (inRg low high)), false, (cnt ((L.take 0).filter (inRg low high)) : Int)⟩ := by simpa [skAll, cnt] using hM
      have hm160 : m ≤ 160 := by omega
      obtain ⟨ga, hgae⟩ : ∃ ga, ga = w1.heap.size := ⟨_, rfl⟩
      rw [← hgae] at haw hga ⊢
      have HVL : Hid (lvAt t D k = L) := by unfold Hid; rw [HV.out, hL]
      have OKL : Hid (AllOkI L) := okL
      clear hM hr hq hb3 hb1 B1 hgae hs1 hlen hL HV okL HVI
      go_wp2
      go_loopw [14] (fun i wr => ∃ (j : Nat) (M : Array Value), j ≤ m ∧ i = .int .i64 j ∧ IsAn M ⟨skAll ((L.take j).filter (inRg low high)), false, (cnt ((L.take j).filter (inRg low high)) : Int)⟩ ∧ AW w wr ga Z M p L) (fun i _ => m - (intOf i).toNat)
      case atStart => exact ⟨0, M, by omega, rfl, hM0, haw⟩
      case round =>
        clear hM0 haw
        obtain ⟨j, M, hj, rfl, hM, haw⟩ := hrel
        by_cases hlj : j < m
        · obtain ⟨x, hx⟩ : ∃ x, L[j]? = some x := ⟨_, List.getElem?_eq_getElem (by omega)⟩
          obtain ⟨b, off, rfl, hlt, hcx⟩ := haw.rows.pos j (by omega)
          have rg : wr.rangeAt b (off + j * 32) x.cells := hcx j x hx
          have y1 : wr.cell? ⟨b, off + j * 32 + 1, none⟩ = some (.int .i64 x.win) := rg 1 _ x.get1
          have y3 : wr.cell? ⟨b, off + j * 32 + 3, none⟩ = some (.bool x.fin) := rg 3 _ x.get3
          have rs := x.range_sk rg
          have okx := OKL.out j x hx
          have hft := filt_take L low high j x hx
          by_cases hin : low ≤ x.win ∧ x.win ≤ high
          · obtain ⟨in0, in1⟩ := hin
            have hiB : inRg low high x = true := by simp [inRg, in0, in1]
            rw [if_pos hiB] at hft
            have okS : (skAll ((L.take j).filter (inRg low high))).Ok := skAll_ok fun y hy => by
              obtain ⟨i, hi⟩ := List.getElem?_of_mem (List.mem_filter.1 hy).1
              rw [List.getElem?_take] at hi
              split at hi
              · exact OKL.out i y hi
              · cases hi
            have ESK : Hid (skAll ((L.take (j + 1)).filter (inRg low high)) = mrg (skAll ((L.take j).filter (inRg low high))) x.sk) := by unfold Hid; rw [hft, skAll_append]
            have ECN : Hid (cnt ((L.take (j + 1)).filter (inRg low high)) = cnt ((L.take j).filter (inRg low high)) + (if x.fin = true then 1 else 0)) := by unfold Hid; rw [hft, cnt_append]
            have hcn : cnt ((L.take j).filter (inRg low high)) ≤ j := Nat.le_trans (cnt_le _) (Nat.le_trans (List.length_filter_le _ _) (by simp; omega))
            obtain ⟨cn, hcne⟩ : ∃ cn, cn = cnt ((L.take j).filter (inRg low high)) := ⟨_, rfl⟩
            rw [← hcne] at hM ECN hcn
            have hbg : b ≠ ga := haw.far b off rfl
            have j0 : (0 : Int) ≤ (j : Int) := by omega
            have j1 : (j : Int) < (m : Int) := by omega
            have HMh : Hid (IsAn M ⟨skAll ((L.take j).filter (inRg low high)), false, (cn : Int)⟩) := hM
            have HOS : Hid (skAll ((L.take j).filter (inRg low high))).Ok := okS
            have HRS : Hid (wr.rangeAt b (off + j * 32 + 4) x.sk.cells.toList) := rs
            have HAW : Hid (AW w wr ga Z M (some ⟨b, off, none⟩) L) := haw
            have HOX : Hid x.Ok := okx
            clear hcne hft rg hcx hiB hM okS rs haw okx
            go_upto_region 13 with fail
            have hM := HMh.out
            have okS := HOS.out
            have rs := HRS.out
            have haw := HAW.out
            have okx := HOX.out
            clear HMh HOS HRS HAW HOX
            have hT0 : (fun w' : World => w'.rangeAt b (off + j * 32 + 4) x.sk.cells.toList) wr.drew := rs
            refine wp_region_held (S := fun w' : World => w'.rangeAt b (off + j * 32 + 4) x.sk.cells.toList) mixed ?_
            obtain ⟨XK, hXK⟩ : ∃ XK, IsSk XK x.sk := ⟨_, rfl⟩
            refine wpAnyH_take (i := 0) (v := (.pointer (some ⟨ga, 0, none⟩))) rfl (by kernel_rfl) (by kernel_rfl) (by kernel_rfl) (fun _ _ _ h => h) (Or.inl ⟨by rfl, fun wx hx => by go_simp⟩) hT0 ?_
            try dsimp only
            try simp only [Act.put, List.getElem_toArray, List.getElem_cons_succ, List.getElem_cons_zero, List.setIfInBounds_toArray, List.set_cons_zero, List.set_cons_succ]
            refine wpAnyH_take (i := 2) (v := (.slice (some ⟨b, off, none⟩) m cp)) rfl (by kernel_rfl) (by kernel_rfl) (by kernel_rfl) (fun _ _ _ h => h) (Or.inl ⟨by rfl, fun wx hx => by go_simp⟩) hT0 ?_
            try dsimp only
            try simp only [Act.put, List.getElem_toArray, List.getElem_cons_succ, List.getElem_cons_zero, List.setIfInBounds_toArray, List.set_cons_zero, List.set_cons_succ]
            refine wpAnyH_take (i := 3) (v := (.int .i64 j)) rfl (by kernel_rfl) (by kernel_rfl) (by kernel_rfl) (fun _ _ _ h => h) (Or.inl ⟨by rfl, fun wx hx => by go_simp⟩) hT0 ?_
            try dsimp only
            try simp only [Act.put, List.getElem_toArray, List.getElem_cons_succ, List.getElem_cons_zero, List.setIfInBounds_toArray, List.set_cons_zero, List.set_cons_succ]
            refine wpAnyH_take (i := 4) (v := (.pointer (some ⟨b, off + j * 32, none⟩))) rfl (by kernel_rfl) (by kernel_rfl) (by kernel_rfl) (fun _ _ _ h => h) (Or.inl ⟨by rfl, fun wx hx => by go_simp⟩) hT0 ?_
            try dsimp only
            try simp only [Act.put, List.getElem_toArray, List.getElem_cons_succ, List.getElem_cons_zero, List.setIfInBounds_toArray, List.set_cons_zero, List.set_cons_succ]
            refine wpAnyH_take (i := 5) (v := (.pointer (some ⟨b, off + j * 32 + 4, none⟩))) rfl (by kernel_rfl) (by kernel_rfl) (by kernel_rfl) (fun _ _ _ h => h) (Or.inl ⟨by rfl, fun wx hx => by go_simp⟩) hT0 ?_
            try dsimp only
            try simp only [Act.put, List.getElem_toArray, List.getElem_cons_succ, List.getElem_cons_zero, List.setIfInBounds_toArray, List.set_cons_zero, List.set_cons_succ]
            refine wpAnyH_take (i := 6) (v := (.agg XK)) rfl (by kernel_rfl) (by kernel_rfl) (by kernel_rfl) (fun _ _ _ h => h) (yieldsIf_load_sk_mid (by rfl) _ rfl _ _ rfl XK _ hXK (fun wx hx => hx)) hT0 ?_
            try dsimp only
            try simp only [Act.put, List.getElem_toArray, List.getElem_cons_succ, List.getElem_cons_zero, List.setIfInBounds_toArray, List.set_cons_zero, List.set_cons_succ]
            refine wpAnyH_all (rs := [1]) (by kernel_rfl) (by simp) ?_
            intro j hj
            simp only [List.mem_cons, List.not_mem_nil, or_false] at hj
            subst hj
            refine wpOp_of_wp rfl rfl (wp_load_sk_mid _ rfl ga 0 rfl _ (by exact hM.range0 haw.m) ?_)
            intro SK hSK
            refine ⟨hT0, ?_⟩
            try dsimp only
            try simp only [Act.put, List.getElem_toArray, List.getElem_cons_succ, List.getElem_cons_zero, List.setIfInBounds_toArray, List.set_cons_zero, List.set_cons_succ]
            refine wpAnyH_all (rs := [7]) (by kernel_rfl) (by simp) ?_
            intro j hj
            simp only [List.mem_cons, List.not_mem_nil, or_false] at hj
            subst hj
            refine wpOp_of_wp rfl rfl ?_
            go_simp
            refine (rmerge_any _ _ SK XK hSK hXK okS okx.sk _).mono ?_
            rintro e wz ⟨R, rfl, hR, hbz⟩
            have hbz' : Below wr.heap.size wr wz := ⟨hbz.os, hbz.tape, hbz.output, hbz.size, hbz.block⟩
            have haz := haw.next hbz'
            have hT1 : (fun w' : World => w'.rangeAt b (off + j * 32 + 4) x.sk.cells.toList) wz := range_below hbz' hlt rs
            refine ⟨hT1, ?_⟩
            try dsimp only
            try simp only [Act.put, List.getElem_toArray, List.getElem_cons_succ, List.getElem_cons_zero, List.setIfInBounds_toArray, List.set_cons_zero, List.set_cons_succ]
            refine wpAnyH_take (i := 8) (v := (.pointer (some ⟨ga, 0, none⟩))) rfl (by kernel_rfl) (by kernel_rfl) (by kernel_rfl) (fun _ _ _ h => h) (Or.inl ⟨by rfl, fun wx hx => by go_simp⟩) hT1 ?_
            try dsimp only
            try simp only [Act.put, List.getElem_toArray, List.getElem_cons_succ, List.getElem_cons_zero, List.setIfInBounds_toArray, List.set_cons_zero, List.set_cons_succ]
            refine wpAnyH_all (rs := [9]) (by kernel_rfl) (by simp) ?_
            intro j hj
            simp only [List.mem_cons, List.not_mem_nil, or_false] at hj
            subst hj
            refine wpOp_of_wp rfl rfl (wp_store_sk0 _ _ rfl R _ rfl rfl hR haz.m hM ?_)
            intro M2 hM2
            have haw2 := haz.row (M' := M2) hga
            refine ⟨fun i u hu => by rw [World.cell?_of_block (w := wz) (setRow_other wz ga b M2 hbg)]; exact hT1 i u hu, ?_⟩
            try dsimp only
            try simp only [Act.put, List.getElem_toArray, List.getElem_cons_succ, List.getElem_cons_zero, List.setIfInBounds_toArray, List.set_cons_zero, List.set_cons_succ]
            refine wpAnyH_done (by kernel_rfl) ?_ _
            have y3' : (wz.setRow ga M2).cell? ⟨b, off + j * 32 + 3, none⟩ = some (.bool x.fin) := by
              rw [World.cell?_of_block (w := wz) (setRow_other wz ga b M2 hbg)]; exact cell_keep hbz' y3
            have c29 : (wz.setRow ga M2).cell? ⟨ga, 29, none⟩ = some (.int .i64 cn) := by rw [cell_of_row _ _ _ _ _ _ haw2.m]; exact hM2.get29
            have f29 : (wz.setRow ga M2).frozen? ⟨ga, 29, none⟩ = false := frozen_of_row _ _ _ _ _ haw2.m
            obtain ⟨wq, hwq⟩ : ∃ wq, wq = wz.setRow ga M2 := ⟨_, rfl⟩
            rw [← hwq] at haw2 y3' c29 f29 ⊢
            have ec : IntKind.i64.wrap ((cn : Int) + 1) = (cn : Int) + 1 := IntWalk.i64_in _ ⟨by omega, by omega⟩
            have HM2h : Hid (IsAn M2 ⟨mrg (skAll ((L.take j).filter (inRg low high))) x.sk, false, (cn : Int)⟩) := hM2
            have HAW2 : Hid (AW w wq ga Z M2 (some ⟨b, off, none⟩) L) := haw2
            clear hwq y1 y3 rs hbz' hbz hT0 hT1 haz hM okS haw okx
            obtain ⟨fb, hfb⟩ : ∃ fb, x.fin = fb := ⟨_, rfl⟩
            rw [hfb] at ECN y3'
            cases fb with
            | true =>
              have HM3 := HM2h.out.setClosed ((cn : Int) + 1)
              have HA3 := HAW2.out.cell hga 29 (.int .i64 ((cn : Int) + 1))
              have HM3' : Hid _ := HM3
              have HA3' : Hid _ := HA3
              clear HM3 HA3 hM2 haw2
              go_wp2
              go_roundw
              case rel => exact ⟨j + 1, _, by omega, by go_num, by rw [ESK.out, ECN.out]; exact HM3'.out, HA3'.out⟩
              case measure => simp [intOf]; omega
            | false =>
              clear c29 f29 hM2 haw2
              go_wp2
              go_roundw
              case rel => exact ⟨j + 1, _, by omega, by go_num, by rw [ESK.out, ECN.out]; exact HM2h.out, HAW2.out⟩
              case measure => simp [intOf]; omega
          · have hiB : inRg low high x = false := by simp [inRg]; omega
            rw [if_neg (by rw [hiB]; simp), List.append_nil] at hft
            have HM3 : Hid (IsAn M ⟨skAll ((L.take (j + 1)).filter (inRg low high)), false, (cnt ((L.take (j + 1)).filter (inRg low high)) : Int)⟩) := by unfold Hid; rw [hft]; exact hM
            have HA3 : Hid (AW w wr ga Z M (some ⟨b, off, none⟩) L) := haw
            clear hft hM haw rg rs hcx y3 okx
            by_cases hlo : x.win < low
            · go_wp2
              go_roundw
              case rel => exact ⟨j + 1, M, by omega, by go_num, HM3.out, HA3.out⟩
              case measure => simp [intOf]; omega
            · have hhi : high < x.win := by omega
              go_wp2
              go_roundw
              case rel => exact ⟨j + 1, M, by omega, by go_num, HM3.out, HA3.out⟩
              case measure => simp [intOf]; omega
        · obtain rfl : j = m := by omega
          have et : L.take j = L := List.take_of_length_le (by omega)
          rw [et] at hM
          have hcn : cnt (L.filter (inRg low high)) ≤ 160 := Nat.le_trans (cnt_le _) (Nat.le_trans (List.length_filter_le _ _) (by omega))
          have HAN : Hid (askAn t (lvAt t D k) k low high = ⟨skAll (L.filter (inRg low high)), decide ((cnt (L.filter (inRg low high)) : Int) = (lvU t k t.length : Int) * (high - low + 1)), cnt (L.filter (inRg low high))⟩) := by unfold Hid askAn; rw [if_pos HE.out, HVL.out]
          obtain ⟨cn, hcne⟩ : ∃ cn, cn = cnt (L.filter (inRg low high)) := ⟨_, rfl⟩
          rw [← hcne] at hM hcn HAN
          have TA := (HW.out.below haw.below).treeAt
          obtain ⟨N, hN⟩ : ∃ N, t.length = N := ⟨_, rfl⟩
          have c0 : wr.cell? ⟨bw, 0, none⟩ = some (.slice vt.p N vt.c) := by rw [← hN]; exact TA.cell
          rw [hN] at HAN h8 hk
          have HTA : Hid (TreeAt wr bw vt.p vt.c t) := TA
          have HTT : Hid (Tree t) := HW.out.T
          have c29 : wr.cell? ⟨ga, 29, none⟩ = some (.int .i64 cn) := by rw [cell_of_row _ _ _ _ _ _ haw.m]; exact hM.get29
          have c28 : wr.cell? ⟨ga, 28, none⟩ = some (.bool false) := by rw [cell_of_row _ _ _ _ _ _ haw.m]; exact hM.get28
          have f28 : wr.frozen? ⟨ga, 28, none⟩ = false := frozen_of_row _ _ _ _ _ haw.m
          have HM : Hid (IsAn M ⟨skAll (L.filter (inRg low high)), false, (cn : Int)⟩) := hM
          have HAW : Hid (AW w wr ga Z M p L) := haw
          clear et hM haw TA hcne
          rename World => W0
          go_wp2
          go_loopw [15, 16] (fun wv i wx => ∃ (q : Nat) (V : Int), q ≤ N ∧ i = .int .i64 q ∧ wv = .int .i64 V ∧ V = (lvU t k q : Int) * (high - low + 1) ∧ 0 ≤ V ∧ V ≤ 20 * (q : Int) ∧ wx = W0) (fun _ i _ => N - (intOf i).toNat)
          case atStart => exact ⟨0, 0, by omega, rfl, rfl, by simp [lvU], by omega, by omega, rfl⟩
          case round =>
            obtain ⟨q, V, hq, rfl, rfl, hV, hV0, hV1, rfl⟩ := hrel
            have HQ : Hid (V = (lvU t k q : Int) * (high - low + 1)) := hV
            clear hV
            by_cases hlq : q < N
            · have es := lvU_succ t k q
              have e1 : IntKind.i64.wrap (V + high) = V + high := IntWalk.i64_in _ ⟨by omega, by omega⟩
              have e2 : IntKind.i64.wrap (V + high - low) = V + high - low := IntWalk.i64_in _ ⟨by omega, by omega⟩
              have e3 : IntKind.i64.wrap (V + high - low + 1) = V + high - low + 1 := IntWalk.i64_in _ ⟨by omega, by omega⟩
              obtain ⟨fl, hfl⟩ : ∃ fl, isLf t q = fl := ⟨_, rfl⟩
              obtain ⟨fu, hfu⟩ : ∃ fu, under t q k = fu := ⟨_, rfl⟩
              rw [hfl, hfu] at es
              cases fl with
              | true =>
                cases fu with
                | true =>
                  have HQ2 : Hid (V + high - low + 1 = (lvU t k (q + 1) : Int) * (high - low + 1)) := by
                    unfold Hid; rw [es, HQ.out]; simp only [Bool.and_self, if_true]
                    rw [Int.natCast_add, Int.add_mul]; omega
                  clear es HQ
                  go_wp2_with (first | (go_at_call 75; refine (isLeaf_any _ _ _ _ t HTA.out _ (by omega)).mono ?_; rintro e wA ⟨rfl, rfl⟩; rw [hfl]) | (go_at_call 76; refine (under_any _ _ _ _ t HTA.out HTT.out _ _ (by omega)).mono ?_; rintro e wA ⟨rfl, rfl⟩; rw [hfu]))
                  go_roundw
                  case rel => exact ⟨q + 1, V + high - low + 1, by omega, by go_num, rfl, HQ2.out, by omega, by omega, trivial⟩
                  case measure => simp [intOf]; omega
                | false =>
                  have HQ2 : Hid (V = (lvU t k (q + 1) : Int) * (high - low + 1)) := by unfold Hid; rw [es, HQ.out]; simp
                  clear es HQ
                  go_wp2_with (first | (go_at_call 75; refine (isLeaf_any _ _ _ _ t HTA.out _ (by omega)).mono ?_; rintro e wA ⟨rfl, rfl⟩; rw [hfl]) | (go_at_call 76; refine (under_any _ _ _ _ t HTA.out HTT.out _ _ (by omega)).mono ?_; rintro e wA ⟨rfl, rfl⟩; rw [hfu]))
                  go_roundw
                  case rel => exact ⟨q + 1, V, by omega, by go_num, rfl, HQ2.out, by omega, by omega, trivial⟩
                  case measure => simp [intOf]; omega
              | false =>
                have HQ2 : Hid (V = (lvU t k (q + 1) : Int) * (high - low + 1)) := by unfold Hid; rw [es, HQ.out]; simp
                clear es HQ
                go_wp2_with (first | (go_at_call 75; refine (isLeaf_any _ _ _ _ t HTA.out _ (by omega)).mono ?_; rintro e wA ⟨rfl, rfl⟩; rw [hfl]) | (go_at_call 76; refine (under_any _ _ _ _ t HTA.out HTT.out _ _ (by omega)).mono ?_; rintro e wA ⟨rfl, rfl⟩; rw [hfu]))
                go_roundw
                case rel => exact ⟨q + 1, V, by omega, by go_num, rfl, HQ2.out, by omega, by omega, trivial⟩
                case measure => simp [intOf]; omega
            · obtain rfl : q = N := by omega
              by_cases ec : (cn : Int) = V
              · have HA2 := HAW.out.cell hga 28 (.bool true)
                have hM1 := HM.out.setSealed true
                have HAN2 : Hid (askAn t (lvAt t D k) k low high = ⟨skAll (L.filter (inRg low high)), true, (cn : Int)⟩) := by unfold Hid; rw [HAN.out, ← HQ.out, decide_eq_true ec]
                have HM1 : Hid (IsAn (M.setIfInBounds 28 (.bool true)) ⟨skAll (L.filter (inRg low high)), true, (cn : Int)⟩) := hM1
                have HA2' : Hid (AW w (wr.setCell ⟨ga, 28, none⟩ (.bool true)) ga Z (M.setIfInBounds 28 (.bool true)) p L) := HA2
                clear HA2 hM1
                go_wp2_with (first | (refine load_an rfl _ rfl _ rfl _ _ HM1.out (by exact HA2'.out.m) ?_) | (refine store_an rfl _ _ rfl _ _ rfl rfl HM1.out (by exact HA2'.out.z) HZ ?_))
                exact bodyPost_ret (results_an rfl _ _ _ _ _ HM1.out rfl (setRow_blk HA2'.out.z)) rfl ⟨_, by rw [HE.out]; rfl, by rw [HAN2.out]; exact HM1.out, below_setRow _ HA2'.out.below (Nat.le_refl _)⟩
              · have hmb : ((cn : Int) == V) = false := by simp [ec]
                have hmd : decide ((cn : Int) = V) = false := decide_eq_false ec
                have HA2 := HAW.out.cell hga 28 (.bool false)
                have hM1 := HM.out.setSealed false
                have HAN2 : Hid (askAn t (lvAt t D k) k low high = ⟨skAll (L.filter (inRg low high)), false, (cn : Int)⟩) := by unfold Hid; rw [HAN.out, ← HQ.out, decide_eq_false ec]
                have HM1 : Hid (IsAn (M.setIfInBounds 28 (.bool false)) ⟨skAll (L.filter (inRg low high)), false, (cn : Int)⟩) := hM1
                have HA2' : Hid (AW w (wr.setCell ⟨ga, 28, none⟩ (.bool false)) ga Z (M.setIfInBounds 28 (.bool false)) p L) := HA2
                clear HA2 hM1
                go_wp2_with (first | (refine load_an rfl _ rfl _ rfl _ _ HM1.out (by exact HA2'.out.m) ?_) | (refine store_an rfl _ _ rfl _ _ rfl rfl HM1.out (by exact HA2'.out.z) HZ ?_))
                exact bodyPost_ret (results_an rfl _ _ _ _ _ HM1.out rfl (setRow_blk HA2'.out.z)) rfl ⟨_, by rw [HE.out]; rfl, by rw [HAN2.out]; exact HM1.out, below_setRow _ HA2'.out.below (Nat.le_refl _)⟩
    · have h2' : isRg low high = false := by simpa using h2
      have HE : Hid (askErr t n low high = 8) := by unfold Hid askErr; rw [if_pos h1, if_neg h2]
      have HAN : Hid (askAn t (lvAt t D n) n low high = An.zero) := by unfold Hid askAn; rw [if_neg (by rw [HE.out]; decide)]
      clear h hl
      go_enter Tryz.func36, Tryz.ntmps36
      go_wp2_with (first | (refine alloc_an rfl rfl ?_; intro Z hZ) | (go_at_call 54; refine (isNode_any _ _ _ _ t (HW.out.below (below_alloc _ _)).treeAt _).mono ?_; rintro e w1 ⟨rfl, rfl⟩; rw [h1]) | (go_at_call 71; refine (isRange_any _ _ _).mono ?_; rintro e w1 ⟨rfl, rfl⟩; rw [h2']) | (refine build_an rfl _ rfl An.zero (by kernel_rfl) ?_; intro M hM) | (refine store_an_new rfl _ _ rfl M _ _ rfl rfl (by simp) hM (by assumption) ?_))
      exact bodyPost_ret (results_an rfl _ _ _ M _ hM rfl (heap_alloc_new _ _)) rfl ⟨M, by rw [HE.out]; rfl, by rw [HAN.out]; exact hM, below_alloc _ _⟩
  · have h1' : isNd t n = false := by simpa using h1
    have HE : Hid (askErr t n low high = 2) := by unfold Hid askErr; rw [if_neg h1]
    have HAN : Hid (askAn t (lvAt t D n) n low high = An.zero) := by unfold Hid askAn; rw [if_neg (by rw [HE.out]; decide)]
    clear h hl
    go_enter Tryz.func36, Tryz.ntmps36
    go_wp2_with (first | (refine alloc_an rfl rfl ?_; intro Z hZ) | (go_at_call 54; refine (isNode_any _ _ _ _ t (HW.out.below (below_alloc _ _)).treeAt _).mono ?_; rintro e w1 ⟨rfl, rfl⟩; rw [h1']) | (refine build_an rfl _ rfl An.zero (by kernel_rfl) ?_; intro M hM) | (refine store_an_new rfl _ _ rfl M _ _ rfl rfl (by simp) hM (by assumption) ?_))
    exact bodyPost_ret (results_an rfl _ _ _ M _ hM rfl (heap_alloc_new _ _)) rfl ⟨M, by rw [HE.out]; rfl, by rw [HAN.out]; exact hM, below_alloc _ _⟩
end Go.Proofs.YtpglbakcjihohaaGreat

/-! One node of the document's store changed: what stays. -/
namespace Go.Proofs.YtpglbakcjihohaaGreat
open Go.RowKit
set_option maxRecDepth 100000

def isWd (t : Tag) : Prop := ∃ i, t = .wd i
/-- The row of nodes, or a list of node k. -/
def ofNode (k : Nat) (t : Tag) : Prop := t = .wd 2 ∨ ∃ i, t = .wd i ∧ 4 * k + 3 ≤ i ∧ i ≤ 4 * k + 6
theorem ofNode_wd {k : Nat} {t : Tag} (h : ofNode k t) : isWd t := by
  rcases h with h | ⟨i, h, _⟩
  · exact ⟨2, h⟩
  · exact ⟨i, h⟩
theorem WRep.upd {w w3 : World} {own own' : Ghost} {B0 bw : Nat} {t : List Int} {wid : Int} {D : List Nd} {vt vn : Sl} {C : List NdC} (h : WRep w own B0 bw t wid D vt vn C) (k : Nat) (c' : NdC) (d' : Nd)
    (f : Fr own (ofNode k) w w3) (s : Same w own own') (hn : Own clNd w3 B0 98 vn.val (C.set k c')) (hr : NdRep w3 own' B0 k c' d') (hok : d'.Ok) : WRep w3 own' B0 bw t wid (D.set k d') vt vn (C.set k c') where
  T := h.T
  wid0 := h.wid0
  wid1 := h.wid1
  main := by rw [f.block bw (lt_of_blk h.main) (by rw [h.tm]; simp) (by rw [h.tm]; rintro (e | ⟨i, e, _⟩) <;> simp at e; omega)]; exact h.main
  tm := by rw [s bw (lt_of_blk h.main) (by rw [h.tm]; simp)]; exact h.tm
  b0 := h.b0
  tree := h.tree.fr f h.tt (by simp) (by rintro (e | ⟨i, e, _⟩) <;> simp at e; omega)
  tt := h.tt.own s h.tree (by simp)
  nodes := hn
  tn := h.tn.own s h.nodes (by simp)
  lc := by simpa using h.lc
  ld := by simpa using h.ld
  rep := fun n c d hc hd => by
    by_cases e : k = n
    · subst e
      rw [List.getElem?_set] at hc hd
      simp only [if_true] at hc hd
      split at hc
      · split at hd
        · cases hc; cases hd; exact hr
        · cases hd
      · cases hc
    · rw [List.getElem?_set_ne e] at hc hd
      exact (h.rep n c d hc hd).chg f s fun i h1 h2 => by rintro (e1 | ⟨j, e1, h3, h4⟩) <;> simp at e1 <;> omega
  ok := fun n d hd => by
    by_cases e : k = n
    · subst e
      rw [List.getElem?_set] at hd
      simp only [if_true] at hd
      split at hd
      · cases hd; exact hok
      · cases hd
    · rw [List.getElem?_set_ne e] at hd
      exact h.ok n d hd
/-- The node's new list was made by an append to its old one, and its slice was stored. -/
theorem ing_done {w w1 w2 : World} {own : Ghost} {B0 bw : Nat} {t : List Int} {wid : Int} {D : List Nd} {vt : Sl} {gn cn : Nat} {C : List NdC} (h : WRep w own B0 bw t wid D vt ⟨some ⟨gn, 0, none⟩, t.length, cn⟩ C) (k : Nat) (c : NdC) (d : Nd) (hc : C[k]? = some c) (hd : D[k]? = some d) (ev : Ev3) (hev : ev.Ok)
    (h1 : Below w.heap.size w w1) (s' : Sl) (o : Own clEv w2 B0 100 s'.val (d.lev ++ [ev])) (g : w1.grownBy w2 c.live.ve.val.ownBlock) (at' : s'.val.ownBlock = c.live.ve.val.ownBlock ∨ s'.val.ownBlock = some w1.heap.size) :
    ∃ own' C', WRep (w2.setCell ⟨gn, k * 46, none⟩ s'.val) own' B0 bw t wid (D.set k { d with lev := d.lev ++ [ev] }) vt ⟨some ⟨gn, 0, none⟩, t.length, cn⟩ C' ∧ Same w own own' ∧ Fr own isWd w (w2.setCell ⟨gn, k * 46, none⟩ s'.val) := by
  have rep := h.rep k c d hc hd
  have ok := h.ok k d hd
  have hnodes : Own clNd w B0 98 (.slice (some ⟨gn, 0, none⟩) t.length cn) C := h.nodes
  have hgn := hnodes.lt gn rfl
  have tgn : own gn = .wd 2 := h.tn gn rfl
  let own' : Ghost := fun j => if s'.val.ownBlock = some j then .wd (4 * k + 3) else own j
  have same : Same w own own' := fun j hj hf => by
    by_cases e : s'.val.ownBlock = some j
    · simp only [own', if_pos e]
      rcases at' with a | a
      · rw [a] at e; exact (rep.tl j e).symm
      · rw [a] at e; have := Option.some.inj e; have := h1.size; omega
    · simp only [own', if_neg e]
  have f2 : Fr own (ofNode k) w w2 := ⟨g.os.trans h1.os, g.tape.trans h1.tape, g.output.trans h1.output, Nat.le_trans h1.size g.size, fun j hj hf hn => by
    rw [g.block j (Nat.lt_of_lt_of_le hj h1.size) (fun e => hn (by rw [rep.tl j e.symm]; exact .inr ⟨_, rfl, by omega, by omega⟩))]; exact h1.block j hj⟩
  have f3 : Fr own (ofNode k) w (w2.setCell ⟨gn, k * 46, none⟩ s'.val) := ⟨f2.os, f2.tape, f2.output, by simpa using f2.size, fun j hj hf hn => by
    rw [heap_setCell_other _ _ _ _ (by show j ≠ gn; intro e; exact hn (by rw [e, tgn]; exact .inl rfl))]; exact f2.block j hj hf hn⟩
  have ngn : s'.val.ownBlock ≠ some gn := fun e => by
    rcases at' with a | a
    · rw [a] at e; have := rep.tl gn e; rw [tgn] at this; simp at this
    · rw [a] at e; have := Option.some.inj e; have := h1.size; omega
  have hn2 : Own clNd w2 B0 98 (.slice (some ⟨gn, 0, none⟩) t.length cn) C := hnodes.chg fun j hj => by
    obtain rfl : gn = j := by simpa [Value.ownBlock] using hj
    rw [g.block gn (Nat.lt_of_lt_of_le hgn.2 h1.size) (fun e => by have := rep.tl gn e.symm; rw [tgn] at this; simp at this)]; exact h1.block gn hgn.2
  have hn3 := hn2.cell_set k c { c with live := { c.live with ve := s' } } hc 0 s'.val (by decide) rfl
  have hn4 : Own clNd (w2.setCell ⟨gn, k * 46, none⟩ s'.val) B0 98 (.slice (some ⟨gn, 0, none⟩) t.length cn) (C.set k { c with live := { c.live with ve := s' } }) := hn3
  have tg : ∀ (v : Value) (i : Nat) {β : Type} {C : Cl β} {e : TypeId} {l : List β}, TgV own v (.wd i) → Own C w B0 e v l → TgV own' v (.wd i) := fun v i _ _ _ _ ht ho => ht.own same ho (by simp)
  refine ⟨own', _, h.upd k _ _ f3 same hn4 ⟨rep.lcl, rep.lmk, rep.kcl, rep.kmk, ?_, ?_, ?_, ?_, ?_, tg _ _ rep.tk rep.kev, tg _ _ rep.ti rep.items, tg _ _ rep.ts rep.saved⟩ ?_, same, f3.mono fun t ht => ofNode_wd ht⟩
  · exact o.chg fun j hj => heap_setCell_other _ _ _ _ (by show j ≠ gn; intro e; exact ngn (by rw [hj, e]))
  · refine rep.kev.chg fun j hj => ?_
    have tj := rep.tk j hj
    rw [heap_setCell_other _ _ _ _ (by show j ≠ gn; intro e; rw [e, tgn] at tj; simp at tj), g.block j (Nat.lt_of_lt_of_le (rep.kev.lt j hj).2 h1.size) (fun e => by rw [rep.tl j e.symm] at tj; simp at tj)]
    exact h1.block j (rep.kev.lt j hj).2
  · refine rep.items.chg fun j hj => ?_
    have tj := rep.ti j hj
    rw [heap_setCell_other _ _ _ _ (by show j ≠ gn; intro e; rw [e, tgn] at tj; simp at tj), g.block j (Nat.lt_of_lt_of_le (rep.items.lt j hj).2 h1.size) (fun e => by rw [rep.tl j e.symm] at tj; simp at tj)]
    exact h1.block j (rep.items.lt j hj).2
  · refine rep.saved.chg fun j hj => ?_
    have tj := rep.ts j hj
    rw [heap_setCell_other _ _ _ _ (by show j ≠ gn; intro e; rw [e, tgn] at tj; simp at tj), g.block j (Nat.lt_of_lt_of_le (rep.saved.lt j hj).2 h1.size) (fun e => by rw [rep.tl j e.symm] at tj; simp at tj)]
    exact h1.block j (rep.saved.lt j hj).2
  · exact fun j hj => if_pos hj
  · refine ⟨fun i e he => ?_, ok.kev, ok.lmk, ok.kmk, ok.items, ok.saved, ok.li, ok.ls⟩
    have he' : (d.lev ++ [ev])[i]? = some e := he
    rcases Nat.lt_or_ge i d.lev.length with hlt | hge
    · rw [List.getElem?_append_left hlt] at he'; exact ok.lev i e he'
    · rw [List.getElem?_append_right hge] at he'
      have := List.mem_of_getElem? he'
      rw [List.mem_singleton] at this
      rw [this]; exact hev
end Go.Proofs.YtpglbakcjihohaaGreat

/-! The document's Ingest, for every node, time, key and value. -/
namespace Go.Proofs.YtpglbakcjihohaaGreat
open Go.RowKit
set_option maxRecDepth 100000

theorem below_drawn' {w w' : World} (h : Below w.drew.heap.size w.drew w') : Below w.heap.size w w' := ⟨h.os, h.tape, h.output, h.size, h.block⟩
section
variable {ops : Array Oper} {i : Nat} {o : Oper} {a : Act} {w : World} {K : Act → World → Prop} {Q : Exit → Act → World → Prop} {S : World → Prop}
theorem hideK (h : ∀ K', Hid (K' = K) → o.wp Tryz.prog a w K' Q) : o.wp Tryz.prog a w K Q := h K rfl
theorem wpOp_build1_ev (hi : ops[i]? = some o) (hg : o.guard = none) (x : Operand) (ho : o.op = .buildSlice 93 1 #[(0, x)]) (e : Ev3) (hx : a.eval x = .agg #[.int .i64 e.win, .string e.key, .int .i32 e.v])
    (h : RowsAt clEv (w.alloc (.cells (flat clEv [e]).toArray 100)) (some ⟨w.heap.size, 0, none⟩) [e] → K (a.put o.dst (.slice (some ⟨w.heap.size, 0, none⟩) 1 1)) (w.alloc (.cells (flat clEv [e]).toArray 100))) : wpOp Tryz.prog ops Q i K a w :=
  wpOp_of_wp hi hg (by
    obtain ⟨ie, z, h1, h2, h3, h4, h5⟩ := slEv.get
    have hf := Great.fill_whole (s := 3) (by decide) [.agg #[.int .i64 e.win, .string e.key, .int .i32 e.v]] ((Array.range (1 * 3)).map (z.cells[· % z.cells.size]!)) (by simp [Value.cells]) (by simp)
    have hs3 : ie.size = 3 := h3
    refine wp_buildSlice _ _ 1 _ ho (flat clEv [e]).toArray ie z slEv.und h1 h2 (by rw [hs3]; decide) (by rw [hs3]; decide) (by rw [hs3]; simp only [hx, List.map_toArray, List.map_cons, List.map_nil]; exact hf) ?_
    refine h (.inr ⟨w.heap.size, 0, rfl, by simp, fun j y hy i u hu => ?_⟩)
    rw [cell_of_row _ _ _ _ _ _ (heap_alloc_new w _)]
    have hj : i < clEv.size := by rw [← Cl.len y]; exact (List.getElem?_eq_some_iff.1 hu).1
    have := flat_get [e] j y hy i hj
    rw [hu] at this
    rw [Nat.zero_add]; simpa using this)
theorem wpOp_append_ev (hi : ops[i]? = some o) (hg : o.guard = none) (s x : Operand) (ho : o.op = .call { callee := .builtin .append, args := #[s, x], argTypes := #[93, 93] }) (base : Nat) (v : Value) (l : List Ev3) (hs : a.eval s = v) (hown : Own clEv w base 100 v l)
    (p : Option Addr) (m c : Nat) (ms : List Ev3) (hx : a.eval x = .slice p m c) (hm : ms.length = m) (hr : RowsAt clEv w p ms) (hpos : 0 < m) (hl : l.length + m ≤ 1000000000) (hbase : base ≤ w.heap.size)
    (h : ∀ v' w', Own clEv w' base 100 v' (l ++ ms) → w.grownBy w' v.ownBlock → (v'.ownBlock = v.ownBlock ∨ v'.ownBlock = some w.heap.size) → (∃ g cap, v' = .slice (some ⟨g, 0, none⟩) (l ++ ms).length cap) → K (a.put o.dst v') w') : wpOp Tryz.prog ops Q i K a w :=
  wpOp_of_wp hi hg (by
    obtain ⟨v', w', hr, h6, _, h7, h8, h9⟩ := run_append_cl slEv o.type w base v l hown p m c ms hm hr hpos (by simp only [maxLen]; omega) (by omega) hbase
    unfold Oper.wp execOp
    simp only [ho, resolve, invoke, builtin, Sem.run_bind, Sem.run_pure, Result.andThen_ok, List.map_toArray, List.map_cons, List.map_nil, hs, hx, hr]
    exact h v' w' h6 h7 (by rcases h8 with h8 | h8; exact .inl h8; exact .inr h8.1) h9)
end

def ingE (t : List Int) (wid : Int) (D : List Nd) (n at' : Int) (key : ByteArray) : Int :=
  if wrg t n = 0 then (if at' < 0 ∨ 20 * wid ≤ at' then 5 else if 20 < key.size then 6 else if ((D[n.toNat]?).map fun d => d.lcl (at' / wid).toNat).getD false = true then 7 else 0) else wrg t n
def ingD (t : List Int) (wid : Int) (D : List Nd) (n at' : Int) (key : ByteArray) (v : Int) : List Nd :=
  if ingE t wid D n at' key = 0 then (match D[n.toNat]? with | some d => D.set n.toNat { d with lev := d.lev ++ [⟨at' / wid, key, v⟩] } | none => D) else D

set_option maxHeartbeats 4000000 in
theorem rIngest_any (w : World) (own : Ghost) (B0 bw : Nat) (t : List Int) (wid : Int) (D : List Nd) (vt vn : Sl) (C : List NdC) (h : WRep w own B0 bw t wid D vt vn C) (n at' : Int) (key : ByteArray) (v : Int) (hB0 : B0 ≤ w.heap.size) (hks : key.size ≤ maxLen) (hv0 : -2147483648 ≤ v) (hv1 : v ≤ 2147483647) (hl : ∀ (k : Nat) (d : Nd), D[k]? = some d → d.lev.length < 1000000000) :
    Calls Tryz.prog 23 #[.pointer (some ⟨bw, 0, none⟩), .int .i64 n, .int .i64 at', .string key, .int .i32 v] w fun e w' => e = .returned (.int .i64 (ingE t wid D n at' key)) ∧ ∃ own' C', WRep w' own' B0 bw t wid (ingD t wid D n at' key v) vt vn C' ∧ Same w own own' ∧ Fr own isWd w w' := by
  have HT : Hid (TreeAt w bw vt.p vt.c t) := h.treeAt
  have h8 := h.T.le
  have c1 := h.width
  have w0 := h.wid0
  have w1' := h.wid1
  have HW0 : Hid (WRep w own B0 bw t wid D vt vn C) := h
  have HSAME : Hid (ingE t wid D n at' key ≠ 0 → ∃ own' C', WRep w own' B0 bw t wid (ingD t wid D n at' key v) vt vn C' ∧ Same w own own' ∧ Fr own isWd w w) := fun he => ⟨own, C, by unfold ingD; rw [if_neg he]; exact h, Same.refl _ _, Fr.refl _ _ _⟩
  by_cases h1 : wrg t n = 0
  · have h2 : isNd t n = true := by
      unfold wrg at h1
      split at h1
      · assumption
      · omega
    obtain ⟨k, c, d, rfl, hk, hc, hd, rep, ok⟩ := h.at n h2
    by_cases a0 : at' < 0
    · have HE : Hid (ingE t wid D k at' key = 5) := by unfold Hid ingE; rw [if_pos h1, if_pos (.inl a0)]
      clear h rep ok hl
      go_enter Tryz.func23, Tryz.ntmps23
      go_wp2_with (go_at_call 47; refine (wrong_any _ _ _ _ t HT.out _ h8).mono ?_; rintro e wA ⟨rfl, rfl⟩; rw [h1])
      go_ret
      exact ⟨by rw [HE.out]; rfl, HSAME.out (by rw [HE.out]; decide)⟩
    · have em : IntKind.i64.wrap (20 * wid) = 20 * wid := IntWalk.i64_in _ ⟨by omega, by omega⟩
      by_cases a1 : 20 * wid ≤ at'
      · have HE : Hid (ingE t wid D k at' key = 5) := by unfold Hid ingE; rw [if_pos h1, if_pos (.inr a1)]
        clear h rep ok hl
        go_enter Tryz.func23, Tryz.ntmps23
        go_wp2_with (go_at_call 47; refine (wrong_any _ _ _ _ t HT.out _ h8).mono ?_; rintro e wA ⟨rfl, rfl⟩; rw [h1])
        go_ret
        exact ⟨by rw [HE.out]; rfl, HSAME.out (by rw [HE.out]; decide)⟩
      · by_cases a2 : 20 < key.size
        · have HE : Hid (ingE t wid D k at' key = 6) := by unfold Hid ingE; rw [if_pos h1, if_neg (by omega), if_pos a2]
          have hks' : (key.size : Int) ≤ 9223372036854775807 := by simp only [maxLen] at hks; omega
          clear h rep ok hl
          go_enter Tryz.func23, Tryz.ntmps23
          go_wp2_with (go_at_call 47; refine (wrong_any _ _ _ _ t HT.out _ h8).mono ?_; rintro e wA ⟨rfl, rfl⟩; rw [h1])
          go_ret
          exact ⟨by rw [HE.out]; rfl, HSAME.out (by rw [HE.out]; decide)⟩
        · have q0 : 0 ≤ at' / wid := Int.ediv_nonneg (by omega) (by omega)
          have q1 : at' / wid < 20 := Int.ediv_lt_of_lt_mul (by omega) (by omega)
          obtain ⟨gn, cn, rfl⟩ := h.row
          have hnodes : Own clNd w B0 98 (.slice (some ⟨gn, 0, none⟩) t.length cn) C := h.nodes
          have hgnl := (hnodes.lt gn rfl).2
          have hbw := lt_of_blk h.main
          have c2 := h.rowcell
          have tgn : own gn = .wd 2 := h.tn gn rfl
          have tbw := h.tm
          have hbg : bw ≠ gn := fun e => by rw [e, tgn] at tbw; simp at tbw
          obtain ⟨qn, hqn⟩ : ∃ qn : Nat, at' / wid = qn := ⟨(at' / wid).toNat, by omega⟩
          have qb : qn < 20 := by omega
          have cq : w.cell? ⟨gn, k * 46 + 1 + qn, none⟩ = some (.bool (c.live.cl qn)) := by
            rw [Nat.add_assoc]
            exact hnodes.cell_at k c hc (1 + qn) _ (by show c.cells[1 + qn]? = _; rw [c.get_live (1 + qn) (by omega)]; exact c.live.getc qn (by omega))
          rw [rep.lcl] at cq
          have hdv : Int.tdiv at' wid = (qn : Int) := by rw [Int.tdiv_eq_ediv_of_nonneg (by omega)]; exact hqn
          obtain ⟨N, hN⟩ : ∃ N, t.length = N := ⟨_, rfl⟩
          have c2' : w.cell? ⟨bw, 2, none⟩ = some (.slice (some ⟨gn, 0, none⟩) N cn) := by rw [← hN]; exact c2
          rw [hN] at hk h8
          obtain ⟨fb, hfb⟩ : ∃ fb, d.lcl qn = fb := ⟨_, rfl⟩
          rw [hfb] at cq
          have hks' : (key.size : Int) ≤ 20 := by omega
          cases fb with
          | true =>
            have HE : Hid (ingE t wid D k at' key = 7) := by unfold Hid ingE; rw [if_pos h1, if_neg (by omega), if_neg a2, if_pos (by simp [hd, hqn, hfb])]
            clear h rep ok hl hnodes c2
            go_enter Tryz.func23, Tryz.ntmps23
            go_wp2_with (go_at_call 47; refine (wrong_any _ _ _ _ t HT.out _ (by omega)).mono ?_; rintro e wA ⟨rfl, rfl⟩; rw [h1])
            go_ret
            exact ⟨by rw [HE.out]; rfl, HSAME.out (by rw [HE.out]; decide)⟩
          | false =>
            have HE : Hid (ingE t wid D k at' key = 0) := by unfold Hid ingE; rw [if_pos h1, if_neg (by omega), if_neg a2, if_neg (by simp [hd, hqn, hfb])]
            have HD : Hid (ingD t wid D k at' key v = D.set k { d with lev := d.lev ++ [⟨at' / wid, key, v⟩] }) := by unfold Hid ingD; rw [if_pos HE.out]; simp [hd]
            have hlk := hl k d hd
            have HEV : Hid (Own clEv w B0 100 (.slice c.live.ve.p c.live.ve.n c.live.ve.c) d.lev) := rep.lev
            have c44 : w.cell? ⟨gn, k * 46, none⟩ = some (.slice c.live.ve.p c.live.ve.n c.live.ve.c) := hnodes.cell_at k c hc 0 _ (by show c.cells[0]? = _; rw [c.get_live 0 (by omega)]; exact c.live.get0)
            have HNB : Hid (some bw ≠ Value.ownBlock (.slice c.live.ve.p c.live.ve.n c.live.ve.c)) := fun e => by have := rep.tl bw e.symm; rw [tbw] at this; simp at this
            have HNG : Hid (some gn ≠ Value.ownBlock (.slice c.live.ve.p c.live.ve.n c.live.ve.c)) := fun e => by have := rep.tl gn e.symm; rw [tgn] at this; simp at this
            have HND : Hid (∃ cur, w.heap[gn]? = some (.cells cur 98)) := hnodes.blk
            have HEO : Hid (Ev3.mk qn key v).Ok := ⟨by show (0 : Int) ≤ qn; omega, by show (qn : Int) < 20; omega, hks, hv0, hv1⟩
            have HW : Hid (WRep w own B0 bw t wid D vt ⟨some ⟨gn, 0, none⟩, t.length, cn⟩ C) := h
            rw [hqn] at HD
            clear c2
            have c2 := c2'
            clear c2' h rep ok hl hnodes hfb HW0 HSAME tgn tbw hqn
            have k0 : (0 : Int) ≤ (k : Int) := by omega
            have k1 : (k : Int) < (N : Int) := by omega
            go_enter Tryz.func23, Tryz.ntmps23
            go_upto_region 11 with (go_at_call 47; refine (wrong_any _ _ _ _ t HT.out _ (by omega)).mono ?_; rintro e wA ⟨rfl, rfl⟩; rw [h1])
            rename World => w
            have hT0 : (fun w' : World => w'.cell? ⟨bw, 2, none⟩ = some (.slice (some ⟨gn, 0, none⟩) N cn)) w.drew := c2
            refine wp_region_held (S := fun w' : World => w'.cell? ⟨bw, 2, none⟩ = some (.slice (some ⟨gn, 0, none⟩) N cn)) mixed ?_
            refine wpAnyH_take (i := 0) (v := (.pointer (some ⟨bw, 0, none⟩))) rfl (by kernel_rfl) (by kernel_rfl) (by kernel_rfl) (fun _ _ _ h => h) (Or.inl ⟨by rfl, fun wx hx => by go_simp⟩) hT0 ?_
            try dsimp only
            try simp only [Act.put, List.getElem_toArray, List.getElem_cons_succ, List.getElem_cons_zero, List.setIfInBounds_toArray, List.set_cons_zero, List.set_cons_succ]
            refine wpAnyH_take (i := 1) (v := (.pointer (some ⟨bw, 0, none⟩))) rfl (by kernel_rfl) (by kernel_rfl) (by kernel_rfl) (fun _ _ _ h => h) (Or.inl ⟨by rfl, fun wx hx => by go_simp⟩) hT0 ?_
            try dsimp only
            try simp only [Act.put, List.getElem_toArray, List.getElem_cons_succ, List.getElem_cons_zero, List.setIfInBounds_toArray, List.set_cons_zero, List.set_cons_succ]
            refine wpAnyH_take (i := 2) (v := (.pointer (some ⟨bw, 2, none⟩))) rfl (by kernel_rfl) (by kernel_rfl) (by kernel_rfl) (fun _ _ _ h => h) (Or.inl ⟨by rfl, fun wx hx => by go_simp⟩) hT0 ?_
            try dsimp only
            try simp only [Act.put, List.getElem_toArray, List.getElem_cons_succ, List.getElem_cons_zero, List.setIfInBounds_toArray, List.set_cons_zero, List.set_cons_succ]
            refine wpAnyH_take (i := 3) (v := (.slice (some ⟨gn, 0, none⟩) N cn)) rfl (by kernel_rfl) (by kernel_rfl) (by kernel_rfl) (fun _ _ _ h => h) (Or.inl ⟨by rfl, fun wx hx => by have hx1 := hx; go_simp⟩) hT0 ?_
            try dsimp only
            try simp only [Act.put, List.getElem_toArray, List.getElem_cons_succ, List.getElem_cons_zero, List.setIfInBounds_toArray, List.set_cons_zero, List.set_cons_succ]
            refine wpAnyH_take (i := 4) (v := (.int .i64 k)) rfl (by kernel_rfl) (by kernel_rfl) (by kernel_rfl) (fun _ _ _ h => h) (Or.inl ⟨by rfl, fun wx hx => by go_simp⟩) hT0 ?_
            try dsimp only
            try simp only [Act.put, List.getElem_toArray, List.getElem_cons_succ, List.getElem_cons_zero, List.setIfInBounds_toArray, List.set_cons_zero, List.set_cons_succ]
            refine wpAnyH_take (i := 5) (v := (.pointer (some ⟨bw, 0, none⟩))) rfl (by kernel_rfl) (by kernel_rfl) (by kernel_rfl) (fun _ _ _ h => h) (Or.inl ⟨by rfl, fun wx hx => by go_simp⟩) hT0 ?_
            try dsimp only
            try simp only [Act.put, List.getElem_toArray, List.getElem_cons_succ, List.getElem_cons_zero, List.setIfInBounds_toArray, List.set_cons_zero, List.set_cons_succ]
            refine wpAnyH_take (i := 6) (v := (.pointer (some ⟨bw, 0, none⟩))) rfl (by kernel_rfl) (by kernel_rfl) (by kernel_rfl) (fun _ _ _ h => h) (Or.inl ⟨by rfl, fun wx hx => by go_simp⟩) hT0 ?_
            try dsimp only
            try simp only [Act.put, List.getElem_toArray, List.getElem_cons_succ, List.getElem_cons_zero, List.setIfInBounds_toArray, List.set_cons_zero, List.set_cons_succ]
            refine wpAnyH_take (i := 7) (v := (.pointer (some ⟨bw, 2, none⟩))) rfl (by kernel_rfl) (by kernel_rfl) (by kernel_rfl) (fun _ _ _ h => h) (Or.inl ⟨by rfl, fun wx hx => by go_simp⟩) hT0 ?_
            try dsimp only
            try simp only [Act.put, List.getElem_toArray, List.getElem_cons_succ, List.getElem_cons_zero, List.setIfInBounds_toArray, List.set_cons_zero, List.set_cons_succ]
            refine wpAnyH_take (i := 8) (v := (.slice (some ⟨gn, 0, none⟩) N cn)) rfl (by kernel_rfl) (by kernel_rfl) (by kernel_rfl) (fun _ _ _ h => h) (Or.inl ⟨by rfl, fun wx hx => by have hx1 := hx; go_simp⟩) hT0 ?_
            try dsimp only
            try simp only [Act.put, List.getElem_toArray, List.getElem_cons_succ, List.getElem_cons_zero, List.setIfInBounds_toArray, List.set_cons_zero, List.set_cons_succ]
            refine wpAnyH_take (i := 9) (v := (.int .i64 k)) rfl (by kernel_rfl) (by kernel_rfl) (by kernel_rfl) (fun _ _ _ h => h) (Or.inl ⟨by rfl, fun wx hx => by go_simp⟩) hT0 ?_
            try dsimp only
            try simp only [Act.put, List.getElem_toArray, List.getElem_cons_succ, List.getElem_cons_zero, List.setIfInBounds_toArray, List.set_cons_zero, List.set_cons_succ]
            refine wpAnyH_take (i := 10) (v := (.pointer (some ⟨gn, k * 46, none⟩))) rfl (by kernel_rfl) (by kernel_rfl) (by kernel_rfl) (fun _ _ _ h => h) (Or.inl ⟨by rfl, fun wx hx => by go_simp⟩) hT0 ?_
            try dsimp only
            try simp only [Act.put, List.getElem_toArray, List.getElem_cons_succ, List.getElem_cons_zero, List.setIfInBounds_toArray, List.set_cons_zero, List.set_cons_succ]
            refine wpAnyH_take (i := 11) (v := (.pointer (some ⟨gn, k * 46, none⟩))) rfl (by kernel_rfl) (by kernel_rfl) (by kernel_rfl) (fun _ _ _ h => h) (Or.inl ⟨by rfl, fun wx hx => by go_simp⟩) hT0 ?_
            try dsimp only
            try simp only [Act.put, List.getElem_toArray, List.getElem_cons_succ, List.getElem_cons_zero, List.setIfInBounds_toArray, List.set_cons_zero, List.set_cons_succ]
            refine wpAnyH_take (i := 12) (v := (.pointer (some ⟨gn, k * 46, none⟩))) rfl (by kernel_rfl) (by kernel_rfl) (by kernel_rfl) (fun _ _ _ h => h) (Or.inl ⟨by rfl, fun wx hx => by go_simp⟩) hT0 ?_
            try dsimp only
            try simp only [Act.put, List.getElem_toArray, List.getElem_cons_succ, List.getElem_cons_zero, List.setIfInBounds_toArray, List.set_cons_zero, List.set_cons_succ]
            refine wpAnyH_take (i := 14) (v := (.int .i64 qn)) rfl (by kernel_rfl) (by kernel_rfl) (by kernel_rfl) (fun _ _ _ h => h) (Or.inl ⟨by rfl, fun wx hx => by go_simp⟩) hT0 ?_
            try dsimp only
            try simp only [Act.put, List.getElem_toArray, List.getElem_cons_succ, List.getElem_cons_zero, List.setIfInBounds_toArray, List.set_cons_zero, List.set_cons_succ]
            refine wpAnyH_take (i := 15) (v := (.string key)) rfl (by kernel_rfl) (by kernel_rfl) (by kernel_rfl) (fun _ _ _ h => h) (Or.inl ⟨by rfl, fun wx hx => by go_simp⟩) hT0 ?_
            try dsimp only
            try simp only [Act.put, List.getElem_toArray, List.getElem_cons_succ, List.getElem_cons_zero, List.setIfInBounds_toArray, List.set_cons_zero, List.set_cons_succ]
            refine wpAnyH_take (i := 16) (v := (.int .i32 v)) rfl (by kernel_rfl) (by kernel_rfl) (by kernel_rfl) (fun _ _ _ h => h) (Or.inl ⟨by rfl, fun wx hx => by go_simp⟩) hT0 ?_
            try dsimp only
            try simp only [Act.put, List.getElem_toArray, List.getElem_cons_succ, List.getElem_cons_zero, List.setIfInBounds_toArray, List.set_cons_zero, List.set_cons_succ]
            refine wpAnyH_take (i := 17) (v := (.agg #[.int .i64 qn, .string key, .int .i32 v])) rfl (by kernel_rfl) (by kernel_rfl) (by kernel_rfl) (fun _ _ _ h => h) (Or.inl ⟨by rfl, fun wx hx => by go_simp⟩) hT0 ?_
            try dsimp only
            try simp only [Act.put, List.getElem_toArray, List.getElem_cons_succ, List.getElem_cons_zero, List.setIfInBounds_toArray, List.set_cons_zero, List.set_cons_succ]
            refine wpAnyH_all (rs := [13, 18]) (by kernel_rfl) (by simp) ?_
            intro j hj
            simp only [List.mem_cons, List.not_mem_nil, or_false] at hj
            rcases hj with rfl | rfl
            · skip
              refine wpOp_of_wp rfl rfl (hideK ?_)
              intro K' hK'
              go_simp
              rw [hK'.out]
              refine ⟨hT0, ?_⟩
              try dsimp only
              try simp only [Act.put, List.getElem_toArray, List.getElem_cons_succ, List.getElem_cons_zero, List.setIfInBounds_toArray, List.set_cons_zero, List.set_cons_succ]
              refine wpAnyH_all (rs := [18]) (by kernel_rfl) (by simp) ?_
              intro j hj
              simp only [List.mem_cons, List.not_mem_nil, or_false] at hj
              subst hj
              refine wpOp_build1_ev rfl rfl _ rfl ⟨qn, key, v⟩ rfl ?_
              intro R1
              have hT1 : (fun w' : World => w'.cell? ⟨bw, 2, none⟩ = some (.slice (some ⟨gn, 0, none⟩) N cn)) (w.drew.alloc (.cells (flat clEv [(⟨qn, key, v⟩ : Ev3)]).toArray 100)) := cell_keep (below_alloc _ _) hT0
              refine ⟨hT1, ?_⟩
              try dsimp only
              try simp only [Act.put, List.getElem_toArray, List.getElem_cons_succ, List.getElem_cons_zero, List.setIfInBounds_toArray, List.set_cons_zero, List.set_cons_succ]
              refine wpAnyH_all (rs := [19]) (by kernel_rfl) (by simp) ?_
              intro j hj
              simp only [List.mem_cons, List.not_mem_nil, or_false] at hj
              subst hj
              refine wpOp_append_ev rfl rfl _ _ rfl B0 _ _ rfl (by exact HEV.out.below (below_drawn' (below_alloc w.drew _))) _ 1 _ _ rfl rfl R1 (by omega) (by omega) (by simp; omega) ?_
              intro v1 w2 o1 g1 t1 f1
              obtain ⟨gb, cb, rfl⟩ := f1
              have hT2 : (fun w' : World => w'.cell? ⟨bw, 2, none⟩ = some (.slice (some ⟨gn, 0, none⟩) N cn)) w2 := by
                have e : w2.heap[bw]? = w.heap[bw]? := by rw [g1.block bw (by simp; omega) (by exact HNB.out)]; exact Below.heap_alloc w.drew _ bw hbw
                show w2.cell? _ = _
                rw [World.cell?_of_block (w := w) e]; exact c2
              refine ⟨hT2, ?_⟩
              try dsimp only
              try simp only [Act.put, List.getElem_toArray, List.getElem_cons_succ, List.getElem_cons_zero, List.setIfInBounds_toArray, List.set_cons_zero, List.set_cons_succ]
              refine wpAnyH_take (i := 20) (v := (.pointer (some ⟨gn, k * 46, none⟩))) rfl (by kernel_rfl) (by kernel_rfl) (by kernel_rfl) (fun _ _ _ h => h) (Or.inl ⟨by rfl, fun wx hx => by go_simp⟩) hT2 ?_
              try dsimp only
              try simp only [Act.put, List.getElem_toArray, List.getElem_cons_succ, List.getElem_cons_zero, List.setIfInBounds_toArray, List.set_cons_zero, List.set_cons_succ]
              refine wpAnyH_take (i := 21) (v := (.pointer (some ⟨gn, k * 46, none⟩))) rfl (by kernel_rfl) (by kernel_rfl) (by kernel_rfl) (fun _ _ _ h => h) (Or.inl ⟨by rfl, fun wx hx => by go_simp⟩) hT2 ?_
              try dsimp only
              try simp only [Act.put, List.getElem_toArray, List.getElem_cons_succ, List.getElem_cons_zero, List.setIfInBounds_toArray, List.set_cons_zero, List.set_cons_succ]
              refine wpAnyH_take (i := 22) (v := (.pointer (some ⟨gn, k * 46, none⟩))) rfl (by kernel_rfl) (by kernel_rfl) (by kernel_rfl) (fun _ _ _ h => h) (Or.inl ⟨by rfl, fun wx hx => by go_simp⟩) hT2 ?_
              try dsimp only
              try simp only [Act.put, List.getElem_toArray, List.getElem_cons_succ, List.getElem_cons_zero, List.setIfInBounds_toArray, List.set_cons_zero, List.set_cons_succ]
              refine wpAnyH_all (rs := [23]) (by kernel_rfl) (by simp) ?_
              intro j hj
              simp only [List.mem_cons, List.not_mem_nil, or_false] at hj
              subst hj
              have gg : ∃ cur, w2.heap[gn]? = some (.cells cur 98) := by
                obtain ⟨cur, hcur⟩ := HND.out
                exact ⟨cur, by rw [g1.block gn (by simp; have := lt_of_blk hcur; omega) (by exact HNG.out)]; exact (Below.heap_alloc w.drew _ gn (lt_of_blk hcur)).trans hcur⟩
              obtain ⟨cur, hcur⟩ := gg
              have cx : ∃ u, w2.cell? ⟨gn, k * 46, none⟩ = some u := ⟨_, by rw [World.cell?_of_block (w := w) (by show w2.heap[gn]? = w.heap[gn]?; rw [g1.block gn (by simp; omega) (by exact HNG.out)]; exact Below.heap_alloc w.drew _ gn hgnl)]; exact c44⟩
              obtain ⟨u, cx⟩ := cx
              have fx : w2.frozen? ⟨gn, k * 46, none⟩ = false := frozen_of_row _ _ _ _ _ hcur
              refine wpOp_of_wp rfl rfl (hideK ?_)
              intro K' hK'
              go_simp
              rw [hK'.out]
              refine ⟨cell_set (by exact hbg) hT2, ?_⟩
              try dsimp only
              try simp only [Act.put, List.getElem_toArray, List.getElem_cons_succ, List.getElem_cons_zero, List.setIfInBounds_toArray, List.set_cons_zero, List.set_cons_succ]
              refine wpAnyH_done (by kernel_rfl) ?_ _
              have Z := ing_done HW.out k c d hc hd ⟨qn, key, v⟩ HEO.out (w1 := w.drew.alloc (.cells (flat clEv [(⟨qn, key, v⟩ : Ev3)]).toArray 100)) (by exact below_drawn' (below_alloc _ _)) ⟨some ⟨gb, 0, none⟩, (d.lev ++ [(⟨qn, key, v⟩ : Ev3)]).length, cb⟩ o1 g1 t1
              obtain ⟨own', C', z1, z2, z3⟩ := Z
              rw [List.length_append] at z1 z3
              clear o1 g1 t1 R1 hT0 hT1 hT2 hcur cx fx
              go_wp2
              go_ret
              exact ⟨by rw [HE.out]; rfl, own', C', by rw [HD.out]; exact z1, z2, z3⟩
            · skip
              refine wpOp_build1_ev rfl rfl _ rfl ⟨qn, key, v⟩ rfl ?_
              intro R1
              have hT1 : (fun w' : World => w'.cell? ⟨bw, 2, none⟩ = some (.slice (some ⟨gn, 0, none⟩) N cn)) (w.drew.alloc (.cells (flat clEv [(⟨qn, key, v⟩ : Ev3)]).toArray 100)) := cell_keep (below_alloc _ _) hT0
              refine ⟨hT1, ?_⟩
              try dsimp only
              try simp only [Act.put, List.getElem_toArray, List.getElem_cons_succ, List.getElem_cons_zero, List.setIfInBounds_toArray, List.set_cons_zero, List.set_cons_succ]
              refine wpAnyH_all (rs := [13]) (by kernel_rfl) (by simp) ?_
              intro j hj
              simp only [List.mem_cons, List.not_mem_nil, or_false] at hj
              subst hj
              refine wpOp_of_wp rfl rfl (hideK ?_)
              intro K' hK'
              go_simp
              rw [hK'.out]
              refine ⟨hT1, ?_⟩
              try dsimp only
              try simp only [Act.put, List.getElem_toArray, List.getElem_cons_succ, List.getElem_cons_zero, List.setIfInBounds_toArray, List.set_cons_zero, List.set_cons_succ]
              refine wpAnyH_all (rs := [19]) (by kernel_rfl) (by simp) ?_
              intro j hj
              simp only [List.mem_cons, List.not_mem_nil, or_false] at hj
              subst hj
              refine wpOp_append_ev rfl rfl _ _ rfl B0 _ _ rfl (by exact HEV.out.below (below_drawn' (below_alloc w.drew _))) _ 1 _ _ rfl rfl R1 (by omega) (by omega) (by simp; omega) ?_
              intro v1 w2 o1 g1 t1 f1
              obtain ⟨gb, cb, rfl⟩ := f1
              have hT2 : (fun w' : World => w'.cell? ⟨bw, 2, none⟩ = some (.slice (some ⟨gn, 0, none⟩) N cn)) w2 := by
                have e : w2.heap[bw]? = w.heap[bw]? := by rw [g1.block bw (by simp; omega) (by exact HNB.out)]; exact Below.heap_alloc w.drew _ bw hbw
                show w2.cell? _ = _
                rw [World.cell?_of_block (w := w) e]; exact c2
              refine ⟨hT2, ?_⟩
              try dsimp only
              try simp only [Act.put, List.getElem_toArray, List.getElem_cons_succ, List.getElem_cons_zero, List.setIfInBounds_toArray, List.set_cons_zero, List.set_cons_succ]
              refine wpAnyH_take (i := 20) (v := (.pointer (some ⟨gn, k * 46, none⟩))) rfl (by kernel_rfl) (by kernel_rfl) (by kernel_rfl) (fun _ _ _ h => h) (Or.inl ⟨by rfl, fun wx hx => by go_simp⟩) hT2 ?_
              try dsimp only
              try simp only [Act.put, List.getElem_toArray, List.getElem_cons_succ, List.getElem_cons_zero, List.setIfInBounds_toArray, List.set_cons_zero, List.set_cons_succ]
              refine wpAnyH_take (i := 21) (v := (.pointer (some ⟨gn, k * 46, none⟩))) rfl (by kernel_rfl) (by kernel_rfl) (by kernel_rfl) (fun _ _ _ h => h) (Or.inl ⟨by rfl, fun wx hx => by go_simp⟩) hT2 ?_
              try dsimp only
              try simp only [Act.put, List.getElem_toArray, List.getElem_cons_succ, List.getElem_cons_zero, List.setIfInBounds_toArray, List.set_cons_zero, List.set_cons_succ]
              refine wpAnyH_take (i := 22) (v := (.pointer (some ⟨gn, k * 46, none⟩))) rfl (by kernel_rfl) (by kernel_rfl) (by kernel_rfl) (fun _ _ _ h => h) (Or.inl ⟨by rfl, fun wx hx => by go_simp⟩) hT2 ?_
              try dsimp only
              try simp only [Act.put, List.getElem_toArray, List.getElem_cons_succ, List.getElem_cons_zero, List.setIfInBounds_toArray, List.set_cons_zero, List.set_cons_succ]
              refine wpAnyH_all (rs := [23]) (by kernel_rfl) (by simp) ?_
              intro j hj
              simp only [List.mem_cons, List.not_mem_nil, or_false] at hj
              subst hj
              have gg : ∃ cur, w2.heap[gn]? = some (.cells cur 98) := by
                obtain ⟨cur, hcur⟩ := HND.out
                exact ⟨cur, by rw [g1.block gn (by simp; have := lt_of_blk hcur; omega) (by exact HNG.out)]; exact (Below.heap_alloc w.drew _ gn (lt_of_blk hcur)).trans hcur⟩
              obtain ⟨cur, hcur⟩ := gg
              have cx : ∃ u, w2.cell? ⟨gn, k * 46, none⟩ = some u := ⟨_, by rw [World.cell?_of_block (w := w) (by show w2.heap[gn]? = w.heap[gn]?; rw [g1.block gn (by simp; omega) (by exact HNG.out)]; exact Below.heap_alloc w.drew _ gn hgnl)]; exact c44⟩
              obtain ⟨u, cx⟩ := cx
              have fx : w2.frozen? ⟨gn, k * 46, none⟩ = false := frozen_of_row _ _ _ _ _ hcur
              refine wpOp_of_wp rfl rfl (hideK ?_)
              intro K' hK'
              go_simp
              rw [hK'.out]
              refine ⟨cell_set (by exact hbg) hT2, ?_⟩
              try dsimp only
              try simp only [Act.put, List.getElem_toArray, List.getElem_cons_succ, List.getElem_cons_zero, List.setIfInBounds_toArray, List.set_cons_zero, List.set_cons_succ]
              refine wpAnyH_done (by kernel_rfl) ?_ _
              have Z := ing_done HW.out k c d hc hd ⟨qn, key, v⟩ HEO.out (w1 := w.drew.alloc (.cells (flat clEv [(⟨qn, key, v⟩ : Ev3)]).toArray 100)) (by exact below_drawn' (below_alloc _ _)) ⟨some ⟨gb, 0, none⟩, (d.lev ++ [(⟨qn, key, v⟩ : Ev3)]).length, cb⟩ o1 g1 t1
              obtain ⟨own', C', z1, z2, z3⟩ := Z
              rw [List.length_append] at z1 z3
              clear o1 g1 t1 R1 hT0 hT1 hT2 hcur cx fx
              go_wp2
              go_ret
              exact ⟨by rw [HE.out]; rfl, own', C', by rw [HD.out]; exact z1, z2, z3⟩
  · have HE : Hid (ingE t wid D n at' key = wrg t n) := by unfold Hid ingE; rw [if_neg h1]
    have HN : Hid (wrg t n ≠ 0) := h1
    obtain ⟨q, hq⟩ : ∃ q, wrg t n = q := ⟨_, rfl⟩
    rw [hq] at h1
    clear h hl
    go_enter Tryz.func23, Tryz.ntmps23
    go_wp2_with (go_at_call 47; refine (wrong_any _ _ _ _ t HT.out _ h8).mono ?_; rintro e wA ⟨rfl, rfl⟩; rw [hq])
    go_ret
    exact ⟨by rw [HE.out, hq]; rfl, HSAME.out (by rw [HE.out]; exact HN.out)⟩
end Go.Proofs.YtpglbakcjihohaaGreat

/-! The document's Advance, for every node and time. -/
namespace Go.Proofs.YtpglbakcjihohaaGreat
open Go.RowKit
set_option maxRecDepth 100000

theorem LfC.set_mark (c : LfC) (m : Int) : ({ c with mark := m } : LfC).cells = c.cells.set 21 (.int .i64 m) := by
  simp only [LfC.cells, List.cons_append, List.set_cons_succ]
  rw [List.set_append_right _ _ (by simp)]
  simp
theorem LfC.set_cl (c : LfC) (j : Nat) (hj : j < 20) (b : Bool) : ({ c with cl := fun i => if i = j then b else c.cl i } : LfC).cells = c.cells.set (1 + j) (.bool b) := by
  rw [Nat.add_comm]
  simp only [LfC.cells, List.cons_append, List.set_cons_succ]
  rw [List.set_append_left _ _ (by simpa using hj)]
  congr 2
  apply List.ext_getElem?
  intro i
  rw [List.getElem?_set]
  simp only [List.getElem?_map, List.length_map, List.length_range]
  by_cases hi : i < 20
  · rw [List.getElem?_range hi]
    by_cases e : j = i
    · subst e; simp [hi]
    · have e' : i ≠ j := fun h => e h.symm
      simp [e, e']
  · rw [List.getElem?_eq_none (by simp; omega)]
    split
    · omega
    · rfl
theorem NdC.set_live (c : NdC) (l' : LfC) (i : Nat) (u : Value) (hi : i < 22) (h : l'.cells = c.live.cells.set i u) : ({ c with live := l' } : NdC).cells = c.cells.set i u := by
  simp only [NdC.cells, h, List.append_assoc]
  rw [List.set_append_left _ _ (by rw [LfC.len]; exact hi)]
/-- What is closed once the watermark stands at 'tm', of the first j windows. -/
def clTo (cl : Nat → Bool) (wid tm : Int) (j : Nat) : Nat → Bool := fun i => if i < j ∧ ((i : Int) + 1) * wid ≤ tm then true else cl i
theorem clTo_yes (cl : Nat → Bool) (wid tm : Int) (j : Nat) (h : ((j : Int) + 1) * wid ≤ tm) : clTo cl wid tm (j + 1) = fun i => if i = j then true else clTo cl wid tm j i := by
  funext i
  simp only [clTo]
  by_cases e : i = j
  · subst e; rw [if_pos ⟨by omega, h⟩, if_pos rfl]
  · rw [if_neg e]
    by_cases hi : i < j
    · by_cases h2 : ((i : Int) + 1) * wid ≤ tm
      · rw [if_pos ⟨by omega, h2⟩, if_pos ⟨hi, h2⟩]
      · rw [if_neg (fun x => h2 x.2), if_neg (fun x => h2 x.2)]
    · rw [if_neg (fun x => by omega), if_neg (fun x => hi x.1)]
theorem clTo_no (cl : Nat → Bool) (wid tm : Int) (j : Nat) (h : ¬ ((j : Int) + 1) * wid ≤ tm) : clTo cl wid tm (j + 1) = clTo cl wid tm j := by
  funext i
  simp only [clTo]
  by_cases e : i = j
  · subst e; rw [if_neg (fun x => h x.2), if_neg (fun x => by omega)]
  · by_cases hi : i < j
    · by_cases h2 : ((i : Int) + 1) * wid ≤ tm
      · rw [if_pos ⟨by omega, h2⟩, if_pos ⟨hi, h2⟩]
      · rw [if_neg (fun x => h2 x.2), if_neg (fun x => h2 x.2)]
    · rw [if_neg (fun x => by omega), if_neg (fun x => hi x.1)]
def advE (t : List Int) (wid : Int) (D : List Nd) (n tm : Int) : Int :=
  if wrg t n = 0 then (if tm < ((D[n.toNat]?).map fun d => d.lmk).getD 0 ∨ 20 * wid < tm then 5 else 0) else wrg t n
def advD (t : List Int) (wid : Int) (D : List Nd) (n tm : Int) : List Nd :=
  if advE t wid D n tm = 0 then (match D[n.toNat]? with | some d => D.set n.toNat { d with lmk := tm, lcl := clTo d.lcl wid tm 20 } | none => D) else D

theorem adv_done {w w3 : World} {own : Ghost} {B0 bw : Nat} {t : List Int} {wid : Int} {D : List Nd} {vt : Sl} {gn cn : Nat} {C : List NdC} (h : WRep w own B0 bw t wid D vt ⟨some ⟨gn, 0, none⟩, t.length, cn⟩ C) (k : Nat) (c : NdC) (d : Nd) (hc : C[k]? = some c) (hd : D[k]? = some d) (tm : Int) (h0 : 0 ≤ tm) (h1 : tm ≤ 20000)
    (g : w.grownBy w3 (some gn)) (hn : Own clNd w3 B0 98 (.slice (some ⟨gn, 0, none⟩) t.length cn) (C.set k { c with live := ⟨c.live.ve, clTo c.live.cl wid tm 20, tm⟩ })) :
    ∃ own' C', WRep w3 own' B0 bw t wid (D.set k { d with lmk := tm, lcl := clTo d.lcl wid tm 20 }) vt ⟨some ⟨gn, 0, none⟩, t.length, cn⟩ C' ∧ Same w own own' ∧ Fr own isWd w w3 := by
  have rep := h.rep k c d hc hd
  have ok := h.ok k d hd
  have tgn : own gn = .wd 2 := h.tn gn rfl
  have f3 : Fr own (ofNode k) w w3 := Fr.of_grown g fun j hj => by cases hj; exact .inr (by rw [tgn]; exact .inl rfl)
  have far : ∀ (v : Value) (i : Nat) {β : Type} {C : Cl β} {e : TypeId} {l : List β}, i ≠ 2 → TgV own v (.wd i) → Own C w B0 e v l → Own C w3 B0 e v l := fun v i _ _ _ _ hi ht ho => ho.chg fun j hj => g.block j (ho.lt j hj).2 fun e => by
    have := ht j hj
    rw [Option.some.inj e, tgn] at this
    simp at this
    omega
  exact ⟨own, _, h.upd k _ _ f3 (Same.refl _ _) hn ⟨by rw [rep.lcl], rfl, rep.kcl, rep.kmk, far _ _ (by omega) rep.tl rep.lev, far _ _ (by omega) rep.tk rep.kev, far _ _ (by omega) rep.ti rep.items, far _ _ (by omega) rep.ts rep.saved, rep.tl, rep.tk, rep.ti, rep.ts⟩ ⟨ok.lev, ok.kev, ⟨h0, h1⟩, ok.kmk, ok.items, ok.saved, ok.li, ok.ls⟩, Same.refl _ _, f3.mono fun t ht => ofNode_wd ht⟩

set_option maxHeartbeats 4000000 in
theorem rAdvance_any (w : World) (own : Ghost) (B0 bw : Nat) (t : List Int) (wid : Int) (D : List Nd) (vt vn : Sl) (C : List NdC) (h : WRep w own B0 bw t wid D vt vn C) (n tm : Int) :
    Calls Tryz.prog 25 #[.pointer (some ⟨bw, 0, none⟩), .int .i64 n, .int .i64 tm] w fun e w' => e = .returned (.int .i64 (advE t wid D n tm)) ∧ ∃ own' C', WRep w' own' B0 bw t wid (advD t wid D n tm) vt vn C' ∧ Same w own own' ∧ Fr own isWd w w' := by
  have HT : Hid (TreeAt w bw vt.p vt.c t) := h.treeAt
  have h8 := h.T.le
  have c1 := h.width
  have w0 := h.wid0
  have w1' := h.wid1
  have HSAME : Hid (advE t wid D n tm ≠ 0 → ∃ own' C', WRep w own' B0 bw t wid (advD t wid D n tm) vt vn C' ∧ Same w own own' ∧ Fr own isWd w w) := fun he => ⟨own, C, by unfold advD; rw [if_neg he]; exact h, Same.refl _ _, Fr.refl _ _ _⟩
  by_cases h1 : wrg t n = 0
  · have h2 : isNd t n = true := by
      unfold wrg at h1
      split at h1
      · assumption
      · omega
    obtain ⟨k, c, d, rfl, hk, hc, hd, rep, ok⟩ := h.at n h2
    have em : IntKind.i64.wrap (20 * wid) = 20 * wid := IntWalk.i64_in _ ⟨by omega, by omega⟩
    obtain ⟨gn, cn, rfl⟩ := h.row
    have hnodes : Own clNd w B0 98 (.slice (some ⟨gn, 0, none⟩) t.length cn) C := h.nodes
    have hgnl := (hnodes.lt gn rfl).2
    have hbw := lt_of_blk h.main
    have c2 := h.rowcell
    have tgn : own gn = .wd 2 := h.tn gn rfl
    have tbw := h.tm
    have hbg : bw ≠ gn := fun e => by rw [e, tgn] at tbw; simp at tbw
    have c21 : w.cell? ⟨gn, k * 46 + 21, none⟩ = some (.int .i64 c.live.mark) := hnodes.cell_at k c hc 21 _ (by show c.cells[21]? = _; rw [c.get_live 21 (by omega)]; exact c.live.getm)
    rw [rep.lmk] at c21
    have okm := ok.lmk
    obtain ⟨N, hN⟩ : ∃ N, t.length = N := ⟨_, rfl⟩
    have c2' : w.cell? ⟨bw, 2, none⟩ = some (.slice (some ⟨gn, 0, none⟩) N cn) := by rw [← hN]; exact c2
    rw [hN] at hk h8 hnodes
    obtain ⟨mk0, hmk⟩ : ∃ m, d.lmk = m := ⟨_, rfl⟩
    rw [hmk] at c21 okm
    clear c2
    by_cases a0 : tm < mk0
    · have HE : Hid (advE t wid D k tm = 5) := by unfold Hid advE; rw [if_pos h1, if_pos (.inl (by simp [hd, hmk, a0]))]
      clear h rep ok hnodes hmk
      go_enter Tryz.func25, Tryz.ntmps25
      go_wp2_with (go_at_call 47; refine (wrong_any _ _ _ _ t HT.out _ (by omega)).mono ?_; rintro e wA ⟨rfl, rfl⟩; rw [h1])
      go_ret
      exact ⟨by rw [HE.out]; rfl, HSAME.out (by rw [HE.out]; decide)⟩
    · by_cases a1 : 20 * wid < tm
      · have HE : Hid (advE t wid D k tm = 5) := by unfold Hid advE; rw [if_pos h1, if_pos (.inr a1)]
        clear h rep ok hnodes hmk
        go_enter Tryz.func25, Tryz.ntmps25
        go_wp2_with (go_at_call 47; refine (wrong_any _ _ _ _ t HT.out _ (by omega)).mono ?_; rintro e wA ⟨rfl, rfl⟩; rw [h1])
        go_ret
        exact ⟨by rw [HE.out]; rfl, HSAME.out (by rw [HE.out]; decide)⟩
      · have HE : Hid (advE t wid D k tm = 0) := by unfold Hid advE; rw [if_pos h1, if_neg (by simp only [Int.toNat_natCast, hd, Option.map_some, Option.getD_some, hmk]; omega)]
        have HD : Hid (advD t wid D k tm = D.set k { d with lmk := tm, lcl := clTo d.lcl wid tm 20 }) := by unfold Hid advD; rw [if_pos HE.out]; simp [hd]
        have HW : Hid (WRep w own B0 bw t wid D vt ⟨some ⟨gn, 0, none⟩, t.length, cn⟩ C) := h
        have f21 : w.frozen? ⟨gn, k * 46 + 21, none⟩ = false := by obtain ⟨cur, hcur⟩ := hnodes.blk; exact frozen_of_row _ _ _ _ _ hcur
        have HN0 : Hid (Own clNd (w.setCell ⟨gn, k * 46 + 21, none⟩ (.int .i64 tm)) B0 98 (.slice (some ⟨gn, 0, none⟩) N cn) (C.set k { c with live := ⟨c.live.ve, clTo c.live.cl wid tm 0, tm⟩ })) := by
          have e0 : clTo c.live.cl wid tm 0 = c.live.cl := by funext i; simp [clTo]
          rw [e0]
          exact hnodes.cell_set k c { c with live := ⟨c.live.ve, c.live.cl, tm⟩ } hc 21 _ (by decide) (c.set_live _ 21 _ (by omega) (c.live.set_mark tm))
        clear h rep ok hnodes hmk HSAME tgn tbw
        have hcC : k < C.length := (List.getElem?_eq_some_iff.1 hc).1
        go_enter Tryz.func25, Tryz.ntmps25
        go_wp2_with (go_at_call 47; refine (wrong_any _ _ _ _ t HT.out _ (by omega)).mono ?_; rintro e wA ⟨rfl, rfl⟩; rw [h1])
        rename World => w
        go_loopw [8] (fun i wr => ∃ j : Nat, j ≤ 20 ∧ i = .int .i64 j ∧ w.grownBy wr (some gn) ∧ Own clNd wr B0 98 (.slice (some ⟨gn, 0, none⟩) N cn) (C.set k { c with live := ⟨c.live.ve, clTo c.live.cl wid tm j, tm⟩ })) (fun i _ => 20 - (intOf i).toNat)
        case atStart => exact ⟨0, by omega, rfl, ⟨rfl, rfl, rfl, by simp, fun j _ hne => heap_setCell_other _ _ _ _ (by show j ≠ gn; intro e; exact hne (by rw [e]))⟩, HN0.out⟩
        case round =>
          obtain ⟨j, hj, rfl, hgr, hown⟩ := hrel
          have HG : Hid (w.grownBy wr (some gn)) := hgr
          have HO : Hid (Own clNd wr B0 98 (.slice (some ⟨gn, 0, none⟩) N cn) (C.set k { c with live := ⟨c.live.ve, clTo c.live.cl wid tm j, tm⟩ })) := hown
          have eb : wr.heap[bw]? = w.heap[bw]? := hgr.block bw hbw (by intro e; exact hbg (Option.some.inj e))
          have x1 : wr.cell? ⟨bw, 1, none⟩ = some (.int .i64 wid) := by rw [World.cell?_of_block (w := w) eb]; exact c1
          have x2 : wr.cell? ⟨bw, 2, none⟩ = some (.slice (some ⟨gn, 0, none⟩) N cn) := by rw [World.cell?_of_block (w := w) eb]; exact c2'
          have hx : (C.set k { c with live := ⟨c.live.ve, clTo c.live.cl wid tm j, tm⟩ })[k]? = some { c with live := ⟨c.live.ve, clTo c.live.cl wid tm j, tm⟩ } := by rw [List.getElem?_set_self hcC]
          by_cases hlj : j < 20
          · have mb : 0 ≤ ((j : Int) + 1) * wid ∧ ((j : Int) + 1) * wid ≤ 20000 := by
              have p1 := Int.mul_le_mul (a := (j : Int) + 1) (b := wid) (c := 20) (d := 1000) (by omega) (by omega) (by omega) (by omega)
              have p2 := Int.mul_nonneg (a := (j : Int) + 1) (b := wid) (by omega) (by omega)
              omega
            have ep : IntKind.i64.wrap (((j : Int) + 1) * wid) = ((j : Int) + 1) * wid := IntWalk.i64_in _ ⟨by omega, by omega⟩
            have y1 : ∃ u, wr.cell? ⟨gn, k * 46 + 1 + j, none⟩ = some u := ⟨_, by
              rw [Nat.add_assoc]
              exact hown.cell_at k _ hx (1 + j) _ (by show (NdC.cells _)[1 + j]? = _; rw [NdC.get_live _ (1 + j) (by omega)]; exact LfC.getc _ j hlj)⟩
            obtain ⟨u, y1⟩ := y1
            have y2 : wr.frozen? ⟨gn, k * 46 + 1 + j, none⟩ = false := by obtain ⟨cur, hcur⟩ := hown.blk; exact frozen_of_row _ _ _ _ _ hcur
            by_cases hle : ((j : Int) + 1) * wid ≤ tm
            · have HO2 : Hid (Own clNd (wr.setCell ⟨gn, k * 46 + 1 + j, none⟩ (.bool true)) B0 98 (.slice (some ⟨gn, 0, none⟩) N cn) (C.set k { c with live := ⟨c.live.ve, clTo c.live.cl wid tm (j + 1), tm⟩ })) := by
                have := hown.cell_set k _ { c with live := ⟨c.live.ve, clTo c.live.cl wid tm (j + 1), tm⟩ } hx (1 + j) (.bool true) (by show 1 + j < 46; omega) (NdC.set_live { c with live := ⟨c.live.ve, clTo c.live.cl wid tm j, tm⟩ } ⟨c.live.ve, clTo c.live.cl wid tm (j + 1), tm⟩ (1 + j) _ (by omega) (by rw [clTo_yes _ _ _ _ hle]; exact LfC.set_cl ⟨c.live.ve, clTo c.live.cl wid tm j, tm⟩ j hlj true))
                rw [List.set_set, NdC.clsize, ← Nat.add_assoc] at this
                exact this
              clear hx hgr hown eb HO
              go_wp2
              go_roundw
              case rel => exact ⟨j + 1, by omega, by go_num, ⟨HG.out.os, HG.out.tape, HG.out.output, by simpa using HG.out.size, fun i hi hne => (heap_setCell_other _ _ _ _ (by show i ≠ gn; intro e; exact hne (by rw [e]))).trans (HG.out.block i hi hne)⟩, HO2.out⟩
              case measure => simp [intOf]; omega
            · have HO2 : Hid (Own clNd wr B0 98 (.slice (some ⟨gn, 0, none⟩) N cn) (C.set k { c with live := ⟨c.live.ve, clTo c.live.cl wid tm (j + 1), tm⟩ })) := by unfold Hid; rw [clTo_no _ _ _ _ hle]; exact hown
              clear hx hgr hown eb HO y1 y2
              go_wp2
              go_roundw
              case rel => exact ⟨j + 1, by omega, by go_num, HG.out, HO2.out⟩
              case measure => simp [intOf]; omega
          · obtain rfl : j = 20 := by omega
            clear hx hgr hown eb x1 x2
            go_wp2
            go_ret
            exact ⟨by rw [HE.out]; rfl, by rw [HD.out]; exact adv_done HW.out k c d hc hd tm (by omega) (by omega) HG.out (by rw [hN]; exact HO.out)⟩
  · have HE : Hid (advE t wid D n tm = wrg t n) := by unfold Hid advE; rw [if_neg h1]
    have HN : Hid (wrg t n ≠ 0) := h1
    obtain ⟨q, hq⟩ : ∃ q, wrg t n = q := ⟨_, rfl⟩
    rw [hq] at h1
    clear h
    go_enter Tryz.func25, Tryz.ntmps25
    go_wp2_with (go_at_call 47; refine (wrong_any _ _ _ _ t HT.out _ h8).mono ?_; rintro e wA ⟨rfl, rfl⟩; rw [hq])
    go_ret
    exact ⟨by rw [HE.out, hq]; rfl, HSAME.out (by rw [HE.out]; exact HN.out)⟩
end Go.Proofs.YtpglbakcjihohaaGreat

/-! 'again', and the document's Sync and Crash. -/
namespace Go.Proofs.YtpglbakcjihohaaGreat
open Go.RowKit
set_option maxRecDepth 100000

def LfC.zero : LfC := ⟨⟨none, 0, 0⟩, fun _ => false, 0⟩
theorem isLfC_of (c : LfC) : IsLfC c.cells.toArray c := by simp [IsLfC]
theorem IsLfC.one {A : Array Value} {c : LfC} (h : IsLfC A c) : A.all (·.oneCell') = true :=
  Array.all_eq_true_iff_forall_mem.2 fun v hv => c.one v (by rw [← show A.toList = c.cells from h]; simpa using hv)
theorem IsLfC.setVe {A : Array Value} {c : LfC} (h : IsLfC A c) (s : Sl) : IsLfC (A.setIfInBounds 0 s.val) { c with ve := s } := by
  show (A.setIfInBounds 0 _).toList = _
  rw [set_list, show A.toList = c.cells from h]; rfl
theorem info_lfA {A : Array Value} {c : LfC} (h : IsLfC A c) : (Tryz.prog.info? 96).map (·.size) = some A.size := by rw [h.size]; kernel_rfl
theorem zero_lf : (Tryz.prog.info? 96).bind (·.zero) = some (.agg LfC.zero.cells.toArray) := by kernel_rfl
theorem zeros_ev : ((Tryz.prog.info? 100).bind (·.zero)).map (·.cells.toList) = some (clEv.cells (Ev3.mk 0 ByteArray.empty 0)) := by kernel_rfl
section
variable {ops : Array Oper} {rest : List Oper} {o : Oper} {a : Act} {w : World} {Q : Exit → Act → World → Prop} {K : Act → World → Prop}
theorem alloc_lf (hgd : o.guard = none) (ho : o.op = .alloc 96)
    (h : ∀ Z, IsLfC Z LfC.zero → wpList Tryz.prog ops Q rest (a.put o.dst (.pointer (some ⟨w.heap.size, 0, none⟩))) (w.alloc (.cells Z 96))) : wpList Tryz.prog ops Q (o :: rest) a w :=
  wpList_alloc_z hgd _ ho _ zero_lf (h _ (isLfC_of _))
theorem load_lf (hgd : o.guard = none) (x : Operand) (ho : o.op = .load 96 x) (g : Nat) (hx : a.eval x = .pointer (some ⟨g, 0, none⟩)) (A : Array Value) (s : LfC) (hA : IsLfC A s)
    (hg : w.heap[g]? = some (.cells A 96)) (h : wpList Tryz.prog ops Q rest (a.put o.dst (.agg A)) w) : wpList Tryz.prog ops Q (o :: rest) a w :=
  wpList_load_row hgd _ x ho g hx _ A (0, 0) _ hg Tryz.underlying96 rfl (info_lfA hA) h
theorem store_lf {c : Array Value} {g : Nat} (hgd : o.guard = none) (x y : Operand) (ho : o.op = .store 96 x y) (A : Array Value) (s : LfC)
    (hx : a.eval x = .pointer (some ⟨g, 0, none⟩)) (hy : a.eval y = .agg A) (hA : IsLfC A s) (hg : w.heap[g]? = some (.cells c 96)) (hc : c.size = 22)
    (h : wpList Tryz.prog ops Q rest (a.put o.dst undef) (w.setRow g A)) : wpList Tryz.prog ops Q (o :: rest) a w :=
  wpList_store_row hgd _ x y ho g A hx hy _ c hg (info_lfA hA) (by rw [hA.size, hc]) hA.one h
theorem store_lf_new {o0 : World} {c : Array Value} {n : Nat} (hgd : o.guard = none) (x y : Operand) (ho : o.op = .store 96 x y) (A : Array Value) (s z : LfC)
    (hx : a.eval x = .pointer (some ⟨n, 0, none⟩)) (hy : a.eval y = .agg A) (hn : n = o0.heap.size) (hA : IsLfC A s) (hc : IsLfC c z)
    (h : wpList Tryz.prog ops Q rest (a.put o.dst undef) (o0.alloc (.cells A 96))) : wpList Tryz.prog ops Q (o :: rest) a (o0.alloc (.cells c 96)) :=
  wpList_store_new hgd x y ho A hx hy hn (info_lfA hA) (by rw [hA.size, hc.size]) hA.one h
end
theorem results_lf {fn : Func} {p : Tmp} (h : fn.results = #[.cell p 96]) (tmps : Array Value) (w : World) (g : Nat) (A : Array Value) (s : LfC) (hA : IsLfC A s)
    (hp : tmps.getD p undef = .pointer (some ⟨g, 0, none⟩)) (hg : w.heap[g]? = some (.cells A 96)) : (results fn tmps).run Tryz.prog w = .ok (.agg A) w :=
  results_cell_row h tmps w g _ A (0, 0) _ hp hg Tryz.underlying96 rfl (info_lfA hA)

/-- What 'again' has in memory once the new row is made. -/
structure AG (w w4 : World) (A Z : Array Value) (p : Option Addr) (m cp : Nat) (l : List Ev3) : Prop where
  below : Below w.heap.size w w4
  a : w4.heap[w.heap.size]? = some (.cells A 96)
  z : w4.heap[w.heap.size + 1]? = some (.cells Z 96)
  mm : w4.heap[w.heap.size + 1 + 1]? = some (.cells A 96)
  own : Own clEv w4 w.heap.size 100 (.slice (some ⟨w.heap.size + 1 + 1 + 1, 0, none⟩) m m) (List.replicate m (Ev3.mk 0 ByteArray.empty 0))
  rows : RowsAt clEv w p l
theorem AG.mk' {w w4 : World} {A Z : Array Value} {p : Option Addr} {m cp : Nat} {l : List Ev3} (hr : RowsAt clEv w p l) (hg : (((w.alloc (.cells A 96)).alloc (.cells Z 96)).alloc (.cells A 96)).grownBy w4 none)
    {q : Nat} (ho : Own clEv w4 w.heap.size 100 (.slice (some ⟨q, 0, none⟩) m m) (List.replicate m (Ev3.mk 0 ByteArray.empty 0))) (hq : q = w.heap.size + 1 + 1 + 1) : AG w w4 A Z p m cp l := by
  subst hq
  have hb := bnext (below_alloc2 w (.cells A 96) (.cells Z 96)) (below_alloc _ (.cells A 96))
  have hb2 := hb.trans (grown_below hg _ hb.size (fun _ h => by cases h))
  refine ⟨hb2, ?_, ?_, ?_, ho, hr⟩
  · rw [hg.block _ (by simp; omega) (by simp)]; exact blk_old (blk_old (heap_alloc_new w _))
  · rw [hg.block _ (by simp) (by simp)]; exact blk_old (blk2 w _ _)
  · rw [hg.block _ (by simp) (by simp)]; exact blk3 w _ _ _
theorem ag_copy {w w4 : World} {A Z : Array Value} {p : Option Addr} {m cp : Nat} {l : List Ev3} (h : AG w w4 A Z p m cp l) (hl : l.length = m) :
    ∃ w6, (Builtin.copy_ #[93, 93] 3 #[.slice (some ⟨w.heap.size + 1 + 1 + 1, 0, none⟩) m m, .slice p m cp]).run Tryz.prog (w4.setCell ⟨w.heap.size + 1 + 1, 0, none⟩ (.slice (some ⟨w.heap.size + 1 + 1 + 1, 0, none⟩) m m)) = .ok (goInt m) w6 ∧ Own clEv w6 w.heap.size 100 (.slice (some ⟨w.heap.size + 1 + 1 + 1, 0, none⟩) m m) l ∧ (w4.setCell ⟨w.heap.size + 1 + 1, 0, none⟩ (.slice (some ⟨w.heap.size + 1 + 1 + 1, 0, none⟩) m m)).grownBy w6 (some (w.heap.size + 1 + 1 + 1)) := by
  have o5 : Own clEv (w4.setCell ⟨w.heap.size + 1 + 1, 0, none⟩ (.slice (some ⟨w.heap.size + 1 + 1 + 1, 0, none⟩) m m)) w.heap.size 100 (.slice (some ⟨w.heap.size + 1 + 1 + 1, 0, none⟩) m m) (List.replicate m (Ev3.mk 0 ByteArray.empty 0)) := h.own.chg fun j hj => by
    obtain rfl : w.heap.size + 1 + 1 + 1 = j := by simpa [Value.ownBlock] using hj
    exact heap_setCell_other w4 ⟨w.heap.size + 1 + 1, 0, none⟩ _ _ (by show w.heap.size + 1 + 1 + 1 ≠ w.heap.size + 1 + 1; omega)
  have r5 : RowsAt clEv (w4.setCell ⟨w.heap.size + 1 + 1, 0, none⟩ (.slice (some ⟨w.heap.size + 1 + 1 + 1, 0, none⟩) m m)) p l := by
    rcases h.rows with e | ⟨b, off, rfl, hlt, hc⟩
    · exact .inl e
    · refine RowsAt.chg (w := w) (.inr ⟨b, off, rfl, hlt, hc⟩) (by simpa using h.below.size) fun b' off' e => ?_
      cases e
      rw [heap_setCell_other _ _ _ _ (by show b ≠ w.heap.size + 1 + 1; omega)]
      exact h.below.block b hlt
  obtain ⟨w6, h1, h2, h3⟩ := run_copy_cl slEv 3 _ _ _ _ _ _ o5 (by simp) p m cp l hl r5 (Nat.le_refl _)
  refine ⟨w6, h1, ?_, h3⟩
  have e : (List.replicate m (Ev3.mk 0 ByteArray.empty 0)).drop m = [] := by simp
  rw [e, List.append_nil] at h2
  exact h2
theorem ag_end {w w4 w6 : World} {A Z : Array Value} {p : Option Addr} {m cp : Nat} {l : List Ev3} (h : AG w w4 A Z p m cp l) {v : Value} (g : (w4.setCell ⟨w.heap.size + 1 + 1, 0, none⟩ v).grownBy w6 (some (w.heap.size + 1 + 1 + 1))) :
    w6.heap[w.heap.size + 1 + 1]? = some (.cells (A.setIfInBounds 0 v) 96) ∧ w6.heap[w.heap.size + 1]? = some (.cells Z 96) ∧ Below w.heap.size w w6 := by
  have s1 := lt_of_blk h.mm
  refine ⟨?_, ?_, ?_⟩
  · rw [g.block _ (by simpa using s1) (by simp)]; exact heap_setCell_same _ _ _ _ _ _ h.mm
  · rw [g.block _ (by have : w.heap.size + 1 < w4.heap.size := by omega
                      simpa using this) (by simp), heap_setCell_other _ _ _ _ (by show w.heap.size + 1 ≠ w.heap.size + 1 + 1; omega)]; exact h.z
  · have hb : Below w.heap.size w (w4.setCell ⟨w.heap.size + 1 + 1, 0, none⟩ v) := h.below.setCell (by show w.heap.size ≤ w.heap.size + 1 + 1; omega) _
    exact hb.trans (grown_below g _ hb.size (fun k hk => by cases hk; omega))
set_option maxHeartbeats 2000000 in
theorem again_any (c : LfC) (A : Array Value) (hA : IsLfC A c) (w : World) (l : List Ev3) (hl : l.length = c.ve.n) (hr : RowsAt clEv w c.ve.p l) (hm : c.ve.n ≤ 1000000000) :
    Calls Tryz.prog 55 #[.agg A] w fun e w' => ∃ (M : Array Value) (s : Sl), e = .returned (.agg M) ∧ IsLfC M { c with ve := s } ∧ Own clEv w' w.heap.size 100 s.val l ∧ Below w.heap.size w w' := by
  obtain ⟨⟨p, m, cp⟩, cl, mark⟩ := c
  have hl' : l.length = m := hl
  have hm' : m ≤ 1000000000 := hm
  have HR : Hid (RowsAt clEv w p l) := hr
  have HA : Hid (IsLfC A ⟨⟨p, m, cp⟩, cl, mark⟩) := hA
  have a0 : A[0]? = some (.slice p m cp) := by rw [hA.get]; rfl
  clear hl hm hr hA
  go_enter Tryz.func55, Tryz.ntmps55
  go_wp2_with (first | (refine alloc_lf rfl rfl ?_; intro Z hZ0; have hZ : Hid (IsLfC Z LfC.zero) := hZ0; clear hZ0) | (refine load_lf rfl _ rfl _ rfl A _ HA.out (by exact blk_old (heap_alloc_new _ _)) ?_) | (refine store_lf_new rfl _ _ rfl A _ _ rfl rfl (by simp) HA.out (by exact hZ.out) ?_) | (refine wpList_make_cl rfl _ _ _ _ 32 slEv rfl (Ev3.mk 0 ByteArray.empty 0) zeros_ev (w.heap.size) m _ rfl rfl rfl (by simp only [maxLen]; omega) (by omega) (by simp; omega) ?_; intro w4 ho hg; have ag := AG.mk' (cp := cp) HR.out hg ho (by simp); clear ho hg; have c2 : w4.cell? ⟨w.heap.size + 1 + 1, 0, none⟩ = some (.slice p m cp) := (by rw [cell_of_row _ _ _ _ _ _ ag.mm]; exact a0); have f2 : w4.frozen? ⟨w.heap.size + 1 + 1, 0, none⟩ = false := frozen_of_row _ _ _ _ _ ag.mm; have x2 : ∀ x, (w4.setCell ⟨w.heap.size + 1 + 1, 0, none⟩ x).cell? ⟨w.heap.size + 1 + 1, 0, none⟩ = some x := (fun x => World.cell?_setCell_same _ _ _ c2); have x0 : ∀ x, (w4.setCell ⟨w.heap.size + 1 + 1, 0, none⟩ x).cell? ⟨w.heap.size, 0, none⟩ = some (.slice p m cp) := (fun x => cell_set (by omega) (by rw [cell_of_row _ _ _ _ _ _ ag.a]; exact a0)); obtain ⟨w6, hrun, o6, g6⟩ := ag_copy ag hl'; obtain ⟨G3, GZ, GB⟩ := ag_end ag g6; have HO6 : Hid (Own clEv w6 w.heap.size 100 (.slice (some ⟨w.heap.size + 1 + 1 + 1, 0, none⟩) m m) l) := o6; have hM6 := HA.out.setVe ⟨some ⟨w.heap.size + 1 + 1 + 1, 0, none⟩, m, m⟩; have HM6 : Hid (IsLfC (A.setIfInBounds 0 (.slice (some ⟨w.heap.size + 1 + 1 + 1, 0, none⟩) m m)) ⟨⟨some ⟨w.heap.size + 1 + 1 + 1, 0, none⟩, m, m⟩, cl, mark⟩) := hM6; have HG3 : Hid _ := G3; have HGZ : Hid _ := GZ; have HGB : Hid (Below w.heap.size w w6) := GB; clear ag o6 g6 hM6 G3 GZ GB) | (at_builtin; refine wpList_copy rfl _ _ _ _ rfl _ _ rfl rfl (by exact hrun) ?_) | (refine load_lf rfl _ rfl _ rfl _ _ HM6.out (by exact HG3.out) ?_) | (refine store_lf rfl _ _ rfl _ _ rfl rfl HM6.out (by exact HGZ.out) (by exact IsLfC.size (c := LfC.zero) (Hid.out (by assumption))) ?_))
  have o9 : ∀ B, Own clEv (w6.setRow (w.heap.size + 1) B) w.heap.size 100 (Sl.val ⟨some ⟨w.heap.size + 1 + 1 + 1, 0, none⟩, m, m⟩) l := fun B => HO6.out.chg fun j hj => by
    have e : w.heap.size + 1 + 1 + 1 = j := by simpa [Value.ownBlock] using hj
    exact setRow_other _ _ _ _ (by omega)
  exact bodyPost_ret (results_lf rfl _ _ _ _ _ HM6.out rfl (setRow_blk HGZ.out)) rfl ⟨_, ⟨some ⟨w.heap.size + 1 + 1 + 1, 0, none⟩, m, m⟩, rfl, HM6.out, o9 _, below_setRow _ HGB.out (by omega)⟩
end Go.Proofs.YtpglbakcjihohaaGreat
