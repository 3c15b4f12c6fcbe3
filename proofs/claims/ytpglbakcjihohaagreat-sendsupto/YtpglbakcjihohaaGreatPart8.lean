/-
  Own texts, laid together: 'step', whatever its kind. 'begin': both stores begin, or neither. 'plays': for every tree, width, script and last kind: true, and the arguments stay. A sketch that comes in as an argument is twenty-eight cells, each a number that fits its kind. A list of numbers and a script that come in as arguments, opened: their cells in memory, and that all of them fit. The program's ledger: where an item stands, which it is, whether it is Final; which items of some windows there are. The program's ledger: an item laid in its place; the watermark; the items of some windows.
-/
import Derived.Test.YtpglbakcjihohaaGreatRows
import Derived.ProofKit
import Derived.OpenShut
import Derived.Deep.Slices
import Derived.Test.YtpglbakcjihohaaGreatPart7
set_option linter.unusedSimpArgs false
set_option linter.unusedVariables false
set_option linter.deprecated false
/-! 'step', whatever its kind. -/
namespace Go.Proofs.YtpglbakcjihohaaGreat
open Go.RowKit
set_option maxRecDepth 100000

def pkN (c n : Int) : Int := if c < 0 then (-(c + 1)) % n else c % n
theorem pkN_bd (c n : Int) (hn : 1 ≤ n) : 0 ≤ pkN c n ∧ pkN c n < n := by
  unfold pkN
  split
  · exact ⟨Int.emod_nonneg _ (by omega), Int.emod_lt_of_pos _ (by omega)⟩
  · exact ⟨Int.emod_nonneg _ (by omega), Int.emod_lt_of_pos _ (by omega)⟩
theorem ret_pkN {a b : Int} (h : a = b) : Ending.returned (.int .i64 a) = .returned (.int .i64 b) := by rw [h]
set_option maxHeartbeats 400000 in
theorem pickL_any (c n : Int) (w : World) (h0 : -9223372036854775808 ≤ c) (h1 : c ≤ 9223372036854775807) (hn : 1 ≤ n) (hn1 : n ≤ 9223372036854775807) :
    Calls Tryz.prog 32 #[.int .i64 c, .int .i64 n] w fun e w' => e = .returned (.int .i64 (pkN c n)) ∧ w' = w := by
  have hz : (n == 0) = false := by simp; omega
  have hb := pkN_bd c n hn
  by_cases h : c < 0
  · have H : Hid (pkN c n = (-(c + 1)) % n) := by unfold pkN; exact if_pos h
    have hb1 : 0 ≤ (-(c + 1)) % n ∧ (-(c + 1)) % n < n := by rw [← H.out]; exact hb
    have ht : Hid ((-(c + 1)).tmod n = (-(c + 1)) % n) := Int.tmod_eq_emod_of_nonneg (by omega)
    go_enter Tryz.func32, Tryz.ntmps32
    go_wp2
    go_ret
    refine ⟨ret_pkN ?_, rfl⟩
    rw [H.out]
    show -((c + 1).tmod n) = _
    rw [← Int.neg_tmod]
    exact ht.out
  · have H : Hid (pkN c n = c % n) := by unfold pkN; exact if_neg h
    have hb1 : 0 ≤ c % n ∧ c % n < n := by rw [← H.out]; exact hb
    go_enter Tryz.func32, Tryz.ntmps32
    go_wp2
    go_ret
    refine ⟨ret_pkN ?_, rfl⟩
    rw [H.out]
section
variable {ops : Array Oper} {rest : List Oper} {o : Oper} {a : Act} {w : World} {Q : Exit → Act → World → Prop}
theorem info_stp : (Tryz.prog.info? 33).map (·.size) = some 8 := by kernel_rfl
theorem load_stp (hgd : o.guard = none) (x : Operand) (ho : o.op = .load 33 x) (g : Nat) (hx : a.eval x = .pointer (some ⟨g, 0, none⟩)) (A : Array Value) (hA : A.size = 8)
    (hg : w.heap[g]? = some (.cells A 33)) (h : wpList Tryz.prog ops Q rest (a.put o.dst (.agg A)) w) : wpList Tryz.prog ops Q (o :: rest) a w :=
  wpList_load_row hgd _ x ho g hx _ _ (0, 0) _ hg Tryz.underlying33 rfl (by rw [hA]; exact info_stp) h
theorem load_pk_mid (hgd : o.guard = none) (x : Operand) (ho : o.op = .load 31 x) (g off : Nat) (hx : a.eval x = .pointer (some ⟨g, off, none⟩)) (u v : Value)
    (hg : w.rangeAt g off [u, v]) (h : wpList Tryz.prog ops Q rest (a.put o.dst (.agg #[u, v])) w) : wpList Tryz.prog ops Q (o :: rest) a w :=
  wpList_step fun K hK => by
    rw [if_pos (by unfold Region.wanted; rw [hgd])]
    exact wp_load_pk_mid x ho g off hx u v hg (hK _ _ h)
end
theorem Nx.box {SR : SRT} {B0 bg bs bw : Nat} {t : List Int} {wid : Int} {m : Nat} {w w1 w2 : World} {own : Ghost} (hb : Below w.heap.size w w1) (h : Nx SR B0 bg bs bw t wid m w1 own w2) : Nx SR B0 bg bs bw t wid m w own w2 := by
  obtain ⟨own', h1, h2, h3⟩ := h
  exact ⟨own', h1, fun k hk hf => h2 k (Nat.lt_of_lt_of_le hk hb.size) hf, (Fr.of_below hb).trans (Same.refl _ _) h3⟩
theorem GX.below {SR : SRT} (R : PR SR) {B0 bg bs bw : Nat} {t : List Int} {wid : Int} {m : Nat} {w w' : World} {own : Ghost} (h : GX SR B0 bg bs bw t wid m w own) (hb : Below w.heap.size w w') : GX SR B0 bg bs bw t wid m w' own := by
  obtain ⟨D, vl, vt, vd, L, T, PK, g⟩ := h
  exact ⟨D, vl, vt, vd, L, T, PK, g.below R hb⟩
theorem sends_any' (SR : SRT) (R : PR SR) (Q : PD SR) (w : World) (own : Ghost) (B0 bg bs bw : Nat) (t : List Int) (wid : Int) (m : Nat) (hx : GX SR B0 bg bs bw t wid m w own) (hm : m < 100000000) (kind a b c v fr : Int) (key : ByteArray) (p : Option Addr) (pn pc : Nat) (ha : fitsI a) (hb : fitsI b) (hc : fitsI c) :
    Calls Tryz.prog 30 #[.pointer (some ⟨bg, 0, none⟩), .agg #[.int .i64 kind, .int .i64 a, .int .i64 b, .int .i64 c, .string key, .int .i32 v, .int .i64 fr, .slice p pn pc]] w fun e w' => e = .returned (.bool true) ∧ Nx SR B0 bg bs bw t wid (m + 1) w own w' :=
  (sends_any SR R Q w (cutO w own) B0 bg bs bw t wid m (hx.cut R) hm (cut_at w own) kind a b c v fr key p pn pc ha hb hc).mono fun e w' ⟨h1, h2⟩ => ⟨h1, h2.cut⟩
set_option maxHeartbeats 2000000 in
theorem step1_any (SR : SRT) (R : PR SR) (w : World) (own : Ghost) (B0 bg bs bw : Nat) (t : List Int) (wid : Int) (m : Nat) (hx : GX SR B0 bg bs bw t wid m w own) (hm : m < 100000000) (a b c v fr : Int) (key : ByteArray) (p : Option Addr) (pn pc : Nat) (ha : fitsI a) (hb : fitsI b) (hc : fitsI c) :
    Calls Tryz.prog 10 #[.pointer (some ⟨bg, 0, none⟩), .agg #[.int .i64 1, .int .i64 a, .int .i64 b, .int .i64 c, .string key, .int .i32 v, .int .i64 fr, .slice p pn pc]] w fun e w' => e = .returned (.bool true) ∧ Nx SR B0 bg bs bw t wid (m + 1) w own w' := by
  have HR : Hid (PR SR) := R
  have HX : Hid (GX SR B0 bg bs bw t wid m w own) := hx
  have HB1 : Hid (Below w.heap.size w (w.alloc (.cells #[.int .i64 1, .int .i64 a, .int .i64 b, .int .i64 c, .string key, .int .i32 v, .int .i64 fr, .slice p pn pc] 33))) := below_alloc _ _
  have HG1 : Hid ((w.alloc (.cells #[.int .i64 1, .int .i64 a, .int .i64 b, .int .i64 c, .string key, .int .i32 v, .int .i64 fr, .slice p pn pc] 33)).heap[w.heap.size]? = some (.cells #[.int .i64 1, .int .i64 a, .int .i64 b, .int .i64 c, .string key, .int .i32 v, .int .i64 fr, .slice p pn pc] 33)) := heap_alloc_new _ _
  clear R hx
  go_enter Tryz.func10, Tryz.ntmps10
  go_wp2_with (first | (refine load_stp rfl _ rfl _ rfl _ rfl (by exact HG1.out) ?_) | (go_at_call 21; refine (asks_any SR HR.out _ own B0 bg bs bw t wid m (HX.out.below HR.out HB1.out) hm 1 a b c v fr key p pn pc ha hb hc).mono ?_; rintro e w2 ⟨rfl, hn2⟩; have Z : Hid (Nx SR B0 bg bs bw t wid (m + 1) w own w2) := Nx.box HB1.out hn2; clear hn2))
  go_ret
  exact ⟨rfl, Z.out⟩
set_option maxHeartbeats 2000000 in
theorem step2_any (SR : SRT) (R : PR SR) (w : World) (own : Ghost) (B0 bg bs bw : Nat) (t : List Int) (wid : Int) (m : Nat) (hx : GX SR B0 bg bs bw t wid m w own) (hm : m < 100000000) (a b c v fr : Int) (key : ByteArray) (p : Option Addr) (pn pc : Nat) (ha : fitsI a) (hb : fitsI b) (hc : fitsI c) :
    Calls Tryz.prog 10 #[.pointer (some ⟨bg, 0, none⟩), .agg #[.int .i64 2, .int .i64 a, .int .i64 b, .int .i64 c, .string key, .int .i32 v, .int .i64 fr, .slice p pn pc]] w fun e w' => e = .returned (.bool true) ∧ Nx SR B0 bg bs bw t wid (m + 1) w own w' := by
  have HR : Hid (PR SR) := R
  have HX : Hid (GX SR B0 bg bs bw t wid m w own) := hx
  have HB1 : Hid (Below w.heap.size w (w.alloc (.cells #[.int .i64 2, .int .i64 a, .int .i64 b, .int .i64 c, .string key, .int .i32 v, .int .i64 fr, .slice p pn pc] 33))) := below_alloc _ _
  have HG1 : Hid ((w.alloc (.cells #[.int .i64 2, .int .i64 a, .int .i64 b, .int .i64 c, .string key, .int .i32 v, .int .i64 fr, .slice p pn pc] 33)).heap[w.heap.size]? = some (.cells #[.int .i64 2, .int .i64 a, .int .i64 b, .int .i64 c, .string key, .int .i32 v, .int .i64 fr, .slice p pn pc] 33)) := heap_alloc_new _ _
  clear R hx
  go_enter Tryz.func10, Tryz.ntmps10
  go_wp2_with (first | (refine load_stp rfl _ rfl _ rfl _ rfl (by exact HG1.out) ?_) | (go_at_call 21; refine (asks_any SR HR.out _ own B0 bg bs bw t wid m (HX.out.below HR.out HB1.out) hm 2 a b c v fr key p pn pc ha hb hc).mono ?_; rintro e w2 ⟨rfl, hn2⟩; have Z : Hid (Nx SR B0 bg bs bw t wid (m + 1) w own w2) := Nx.box HB1.out hn2; clear hn2))
  go_ret
  exact ⟨rfl, Z.out⟩
set_option maxHeartbeats 2000000 in
theorem step7_any (SR : SRT) (R : PR SR) (Q : PD SR) (w : World) (own : Ghost) (B0 bg bs bw : Nat) (t : List Int) (wid : Int) (m : Nat) (hx : GX SR B0 bg bs bw t wid m w own) (hm : m < 100000000) (a b c v fr : Int) (key : ByteArray) (p : Option Addr) (pn pc : Nat) (ha : fitsI a) (hb : fitsI b) (hc : fitsI c) :
    Calls Tryz.prog 10 #[.pointer (some ⟨bg, 0, none⟩), .agg #[.int .i64 7, .int .i64 a, .int .i64 b, .int .i64 c, .string key, .int .i32 v, .int .i64 fr, .slice p pn pc]] w fun e w' => e = .returned (.bool true) ∧ Nx SR B0 bg bs bw t wid (m + 1) w own w' := by
  have HQ : Hid (PD SR) := Q
  clear Q
  have HR : Hid (PR SR) := R
  have HX : Hid (GX SR B0 bg bs bw t wid m w own) := hx
  have HB1 : Hid (Below w.heap.size w (w.alloc (.cells #[.int .i64 7, .int .i64 a, .int .i64 b, .int .i64 c, .string key, .int .i32 v, .int .i64 fr, .slice p pn pc] 33))) := below_alloc _ _
  have HG1 : Hid ((w.alloc (.cells #[.int .i64 7, .int .i64 a, .int .i64 b, .int .i64 c, .string key, .int .i32 v, .int .i64 fr, .slice p pn pc] 33)).heap[w.heap.size]? = some (.cells #[.int .i64 7, .int .i64 a, .int .i64 b, .int .i64 c, .string key, .int .i32 v, .int .i64 fr, .slice p pn pc] 33)) := heap_alloc_new _ _
  clear R hx
  go_enter Tryz.func10, Tryz.ntmps10
  go_wp2_with (first | (refine load_stp rfl _ rfl _ rfl _ rfl (by exact HG1.out) ?_) | (go_at_call 30; refine (sends_any' SR HR.out HQ.out _ own B0 bg bs bw t wid m (HX.out.below HR.out HB1.out) hm 7 a b c v fr key p pn pc ha hb hc).mono ?_; rintro e w2 ⟨rfl, hn2⟩; have Z : Hid (Nx SR B0 bg bs bw t wid (m + 1) w own w2) := Nx.box HB1.out hn2; clear hn2))
  go_ret
  exact ⟨rfl, Z.out⟩
set_option maxHeartbeats 2000000 in
theorem stepN_any (SR : SRT) (R : PR SR) (w : World) (own : Ghost) (B0 bg bs bw : Nat) (t : List Int) (wid : Int) (m : Nat) (hx : GX SR B0 bg bs bw t wid m w own) (hm : m < 100000000) (kind a b c v fr : Int) (key : ByteArray) (p : Option Addr) (pn pc : Nat) (hk : kind < 1 ∨ 9 < kind) :
    Calls Tryz.prog 10 #[.pointer (some ⟨bg, 0, none⟩), .agg #[.int .i64 kind, .int .i64 a, .int .i64 b, .int .i64 c, .string key, .int .i32 v, .int .i64 fr, .slice p pn pc]] w fun e w' => e = .returned (.bool true) ∧ Nx SR B0 bg bs bw t wid (m + 1) w own w' := by
  have k1 : (kind == 1) = false := by simp; omega
  have k2 : (kind == 2) = false := by simp; omega
  have k3 : (kind == 3) = false := by simp; omega
  have k4 : (kind == 4) = false := by simp; omega
  have k5 : (kind == 5) = false := by simp; omega
  have k6 : (kind == 6) = false := by simp; omega
  have k7 : (kind == 7) = false := by simp; omega
  have k8 : (kind == 8) = false := by simp; omega
  have k9 : (kind == 9) = false := by simp; omega
  clear hk
  have HR : Hid (PR SR) := R
  have HX : Hid (GX SR B0 bg bs bw t wid m w own) := hx
  have HB1 : Hid (Below w.heap.size w (w.alloc (.cells #[.int .i64 kind, .int .i64 a, .int .i64 b, .int .i64 c, .string key, .int .i32 v, .int .i64 fr, .slice p pn pc] 33))) := below_alloc _ _
  have HG1 : Hid ((w.alloc (.cells #[.int .i64 kind, .int .i64 a, .int .i64 b, .int .i64 c, .string key, .int .i32 v, .int .i64 fr, .slice p pn pc] 33)).heap[w.heap.size]? = some (.cells #[.int .i64 kind, .int .i64 a, .int .i64 b, .int .i64 c, .string key, .int .i32 v, .int .i64 fr, .slice p pn pc] 33)) := heap_alloc_new _ _
  clear R hx
  go_enter Tryz.func10, Tryz.ntmps10
  go_wp2
  go_ret
  exact ⟨rfl, own, (HX.out.below HR.out HB1.out).mono (by omega), Same.refl _ _, Fr.of_below HB1.out⟩
set_option maxHeartbeats 4000000 in
theorem step9_any (SR : SRT) (R : PR SR) (Q : PJ SR) (w : World) (own : Ghost) (B0 bg bs bw : Nat) (t : List Int) (wid : Int) (m : Nat) (hx : GX SR B0 bg bs bw t wid m w own) (hm : m < 100000000) (hfree : ∀ k, w.heap.size ≤ k → own k = .free) (a b c v fr : Int) (key : ByteArray) (p : Option Addr) (pn pc : Nat) (ha : fitsI a) (hfr : fitsI fr) (l : List It) (hlen : l.length = pn) (hrow : RowsAt clIt w p l) (hok : AllOkI l) (hsm : pn ≤ 100000000) (hob : l = [] ∨ ∀ b off, p = some ⟨b, off, none⟩ → own b = .arg) :
    Calls Tryz.prog 10 #[.pointer (some ⟨bg, 0, none⟩), .agg #[.int .i64 9, .int .i64 a, .int .i64 b, .int .i64 c, .string key, .int .i32 v, .int .i64 fr, .slice p pn pc]] w fun e w' => e = .returned (.bool true) ∧ Nx SR B0 bg bs bw t wid (m + 1) w own w' := by
  have HQ : Hid (PJ SR) := Q
  have HRW : Hid (RowsAt clIt w p l ∧ AllOkI l ∧ (l = [] ∨ ∀ b off, p = some ⟨b, off, none⟩ → own b = .arg)) := ⟨hrow, hok, hob⟩
  have HFR : Hid (∀ k, w.heap.size ≤ k → own k = .free) := hfree
  obtain ⟨D, vl, vt, vd, L, T, PK, g⟩ := hx
  have HX : Hid (GD SR w own B0 bg bs bw t wid m D vl vt vd L T PK) := g
  have HR : Hid (PR SR) := R
  have HB1 : Hid (Below w.heap.size w (w.alloc (.cells #[.int .i64 9, .int .i64 a, .int .i64 b, .int .i64 c, .string key, .int .i32 v, .int .i64 fr, .slice p pn pc] 33))) := below_alloc _ _
  have HG1 : Hid ((w.alloc (.cells #[.int .i64 9, .int .i64 a, .int .i64 b, .int .i64 c, .string key, .int .i32 v, .int .i64 fr, .slice p pn pc] 33)).rangeAt w.heap.size 6 [.int .i64 fr, .slice p pn pc]) := fun i u hu => by
    rw [cell_of_row _ _ _ _ _ _ (heap_alloc_new w _)]
    match i, hu with
    | 0, hu => exact hu
    | 1, hu => exact hu
    | i + 2, hu => simp at hu
  clear R Q g hrow hok hob hfree
  go_enter Tryz.func10, Tryz.ntmps10
  go_wp2_with (first | (refine load_pk_mid rfl _ rfl _ 6 rfl _ _ (by exact HG1.out) ?_) | (go_at_call 31; refine (brings_any SR HR.out HQ.out _ own B0 bg bs bw t wid m D vl vt vd L T PK (HX.out.below HR.out HB1.out) hm (fun k hk => HFR.out k (by have := HB1.out.size; omega)) a fr l p pn pc ha hfr hlen (HRW.out.1.below HB1.out) HRW.out.2.1 hsm (by rcases HRW.out.2.2 with h | h; (exact .inl h); exact .inr fun b off e => .inl (h b off e))).mono ?_; rintro e w2 ⟨rfl, own2, g2, s2, f2⟩; have Z : Hid (Nx SR B0 bg bs bw t wid (m + 1) w own w2) := Nx.box HB1.out ⟨own2, ⟨_, vl, vt, vd, L, T, PK, g2⟩, s2, f2⟩; clear g2 s2 f2))
  go_ret
  exact ⟨rfl, Z.out⟩
set_option maxHeartbeats 8000000 in
theorem step8_any (SR : SRT) (R : PR SR) (Q : PJ SR) (w : World) (own : Ghost) (B0 bg bs bw : Nat) (t : List Int) (wid : Int) (m : Nat) (hx : GX SR B0 bg bs bw t wid m w own) (hm : m < 100000000) (hfree : ∀ k, w.heap.size ≤ k → own k = .free) (a b c v fr : Int) (key : ByteArray) (p : Option Addr) (pn pc : Nat) (ha : fitsI a) (hb : fitsI b) :
    Calls Tryz.prog 10 #[.pointer (some ⟨bg, 0, none⟩), .agg #[.int .i64 8, .int .i64 a, .int .i64 b, .int .i64 c, .string key, .int .i32 v, .int .i64 fr, .slice p pn pc]] w fun e w' => e = .returned (.bool true) ∧ Nx SR B0 bg bs bw t wid (m + 1) w own w' := by
  have HQ : Hid (PJ SR) := Q
  clear Q
  obtain ⟨D, vl, vt, vd, L, T, PK, g⟩ := hx
  have HR : Hid (PR SR) := R
  have HG : Hid (GD SR w own B0 bg bs bw t wid m D vl vt vd L T PK) := g
  have hbg := lt_of_blk g.gb.game
  have HFR : Hid (∀ k, w.heap.size ≤ k → own k = .free) := hfree
  clear R g hfree
  obtain ⟨⟨vp, vn, vc⟩, hvd⟩ : ∃ v0 : Sl, v0 = vd := ⟨_, rfl⟩
  have HV0 : Hid (PK.length = vn ∧ RowsAt clPk w vp PK) := by have := HG.out.gb.od; rw [← hvd] at this; exact Own.sl (s := ⟨vp, vn, vc⟩) this
  have HVD : Hid ((⟨vp, vn, vc⟩ : Sl) = vd) := hvd
  clear hvd
  by_cases hz : PK.length = 0
  · have hvn : vn = 0 := by have := HV0.out.1; omega
    subst hvn
    have c2 : (w.alloc (.cells #[.int .i64 8, .int .i64 a, .int .i64 b, .int .i64 c, .string key, .int .i32 v, .int .i64 fr, .slice p pn pc] 33)).cell? ⟨bg, 2, none⟩ = some (.slice vp 0 vc) := by
      refine cell_keep (below_alloc _ _) ?_
      rw [cell_of_row _ _ _ _ _ _ HG.out.gb.game, ← HVD.out]; rfl
    go_enter Tryz.func10, Tryz.ntmps10
    go_wp2
    go_ret
    exact ⟨rfl, own, (GX.below HR.out ⟨D, vl, vt, vd, L, T, PK, HG.out⟩ (below_alloc _ _)).mono (by omega), Same.refl _ _, Fr.of_below (below_alloc _ _)⟩
  · obtain ⟨gd, od, rfl, hgd, hrg⟩ := HV0.out.2.pos 0 (by omega)
    have hvn : PK.length = vn := HV0.out.1
    have HRG : Hid (∀ i x, PK[i]? = some x → w.rangeAt gd (od + i * 2) (clPk.cells x)) := hrg
    have hlp := HG.out.lp
    obtain ⟨N, hN⟩ : ∃ N, PK.length = N := ⟨_, rfl⟩
    have HN : Hid (PK.length = N) := hN
    have hvN : vn = N := by omega
    subst hvN
    have nz : ((vn : Int) == 0) = false := by simp; omega
    have hn1 : (1 : Int) ≤ (vn : Int) := by omega
    have hpk := pkN_bd b vn hn1
    obtain ⟨q, hq⟩ : ∃ q : Nat, pkN b vn = q := ⟨(pkN b vn).toNat, by omega⟩
    have HPQ : Hid (pkN b vn = q) := hq
    have q0 : (0 : Int) ≤ (q : Int) := by omega
    have q1 : (q : Int) < (vn : Int) := by omega
    obtain ⟨⟨xf, ⟨xp, xn, xc⟩⟩, hxq⟩ : ∃ x, PK[q]? = some x := ⟨_, List.getElem?_eq_getElem (by omega)⟩
    have HXQ : Hid (PK[q]? = some ⟨xf, ⟨xp, xn, xc⟩⟩) := hxq
    obtain ⟨hfx, l, hl1, hl2, hl3, hl4, hl5⟩ := HG.out.gb.pk _ (List.mem_of_getElem? hxq)
    have HL : Hid (fitsI xf ∧ l.length = xn ∧ RowsAt clIt w xp l ∧ AllOkI l ∧ xn ≤ 160 ∧ ∀ b off, xp = some ⟨b, off, none⟩ → b < w.heap.size ∧ own b = .ldI) := ⟨hfx, hl1, hl2, hl3, hl4, hl5⟩
    have HFB : Hid (fitsI b) := hb
    have c2w : w.cell? ⟨bg, 2, none⟩ = some (.slice (some ⟨gd, od, none⟩) vn vc) := by rw [cell_of_row _ _ _ _ _ _ HG.out.gb.game, ← HVD.out]; rfl
    have HC2 : Hid (w.cell? ⟨bg, 2, none⟩ = some (.slice (some ⟨gd, od, none⟩) vn vc)) := c2w
    have c2a : (w.alloc (.cells #[.int .i64 8, .int .i64 a, .int .i64 b, .int .i64 c, .string key, .int .i32 v, .int .i64 fr, .slice p pn pc] 33)).cell? ⟨bg, 2, none⟩ = some (.slice (some ⟨gd, od, none⟩) vn vc) := cell_keep (below_alloc _ _) c2w
    clear hrg hN hq hxq hl1 hl2 hl3 hl4 hl5 hfx c2w
    go_enter Tryz.func10, Tryz.ntmps10
    go_upto_region 28 with fail
    clear c2a
    obtain ⟨bx, hbx⟩ : ∃ bx, bx = w.heap.size := ⟨_, rfl⟩
    obtain ⟨w1, hw1⟩ : ∃ w1, w1 = w.alloc (.cells #[.int .i64 8, .int .i64 a, .int .i64 b, .int .i64 c, .string key, .int .i32 v, .int .i64 fr, .slice p pn pc] 33) := ⟨_, rfl⟩
    have HB1 : Hid (Below w.heap.size w w1) := by unfold Hid; rw [hw1]; exact below_alloc _ _
    have HBX : Hid (w1.heap[bx]? = some (.cells #[.int .i64 8, .int .i64 a, .int .i64 b, .int .i64 c, .string key, .int .i32 v, .int .i64 fr, .slice p pn pc] 33)) := by unfold Hid; rw [hw1, hbx]; exact heap_alloc_new _ _
    have HG1 : Hid (GD SR w1 own B0 bg bs bw t wid m D vl vt vd L T PK) := HG.out.below HR.out HB1.out
    have HBXE : Hid (bx = w.heap.size) := hbx
    have hbxw : bx < w1.heap.size := lt_of_blk HBX.out
    rw [← hw1, ← hbx]
    obtain ⟨own1, hown1⟩ : ∃ own1 : Ghost, own1 = fun k => if k = bx then .arg else own k := ⟨_, rfl⟩
    have HOW : Hid (∀ k, k ≠ bx → own1 k = own k) := fun k hk => by rw [hown1]; exact if_neg hk
    have HOX : Hid (own1 bx = .arg) := by unfold Hid; rw [hown1]; exact if_pos rfl
    have HGA : Hid (GD SR w1 own1 B0 bg bs bw t wid m D vl vt vd L T PK) := HG1.out.chg HR.out (Fr.refl _ _ _) fun k hk hf => by
      by_cases e : k = bx
      · exact absurd (HFR.out k (by have := HBXE.out; omega)) hf
      · exact HOW.out k e
    have HOM : Hid (own1 bg = .gm) := HGA.out.gb.gm
    have c0 : w1.cell? ⟨bg, 0, none⟩ = some (.pointer (some ⟨bs, 0, none⟩)) := by rw [cell_of_row _ _ _ _ _ _ HGA.out.gb.game]; rfl
    have c1 : w1.cell? ⟨bg, 1, none⟩ = some (.pointer (some ⟨bw, 0, none⟩)) := by rw [cell_of_row _ _ _ _ _ _ HGA.out.gb.game]; rfl
    have x1 : w1.cell? ⟨bx, 1, none⟩ = some (.int .i64 a) := by rw [cell_of_row _ _ _ _ _ _ HBX.out]; rfl
    have x2 : w1.cell? ⟨bx, 2, none⟩ = some (.int .i64 b) := by rw [cell_of_row _ _ _ _ _ _ HBX.out]; rfl
    have x3 : w1.cell? ⟨bx, 3, none⟩ = some (.int .i64 c) := by rw [cell_of_row _ _ _ _ _ _ HBX.out]; rfl
    have x4 : w1.cell? ⟨bx, 4, none⟩ = some (.string key) := by rw [cell_of_row _ _ _ _ _ _ HBX.out]; rfl
    have x5 : w1.cell? ⟨bx, 5, none⟩ = some (.int .i32 v) := by rw [cell_of_row _ _ _ _ _ _ HBX.out]; rfl
    clear hw1 hbx HBX hown1
    have c2 : w1.cell? ⟨bg, 2, none⟩ = some (.slice (some ⟨gd, od, none⟩) vn vc) := cell_keep HB1.out HC2.out
    have HRG1 : Hid (w1.rangeAt gd (od + q * 2) [.int .i64 xf, .slice xp xn xc]) := range_below HB1.out hgd (HRG.out q _ HXQ.out)
    clear c0 c1 x3 x4 x5
    have hT0 : (fun w' : World => w'.cell? ⟨bg, 2, none⟩ = some (.slice (some ⟨gd, od, none⟩) vn vc) ∧ w'.cell? ⟨bx, 1, none⟩ = some (.int .i64 a) ∧ w'.cell? ⟨bx, 2, none⟩ = some (.int .i64 b) ∧ w'.rangeAt gd (od + q * 2) [.int .i64 xf, .slice xp xn xc]) w1.drew := ⟨c2, x1, x2, HRG1.out⟩
    refine wp_region_held (S := fun w' : World => w'.cell? ⟨bg, 2, none⟩ = some (.slice (some ⟨gd, od, none⟩) vn vc) ∧ w'.cell? ⟨bx, 1, none⟩ = some (.int .i64 a) ∧ w'.cell? ⟨bx, 2, none⟩ = some (.int .i64 b) ∧ w'.rangeAt gd (od + q * 2) [.int .i64 xf, .slice xp xn xc]) mixed ?_
    refine wpAnyH_take (i := 0) (v := (.pointer (some ⟨bg, 0, none⟩))) rfl (by kernel_rfl) (by kernel_rfl) (by kernel_rfl) (fun _ _ _ h => h) (Or.inl ⟨by rfl, fun wx hx => by go_simp⟩) hT0 ?_
    try dsimp only
    try simp only [Act.put, List.getElem_toArray, List.getElem_cons_succ, List.getElem_cons_zero, List.setIfInBounds_toArray, List.set_cons_zero, List.set_cons_succ]
    refine wpAnyH_take (i := 1) (v := (.pointer (some ⟨bx, 1, none⟩))) rfl (by kernel_rfl) (by kernel_rfl) (by kernel_rfl) (fun _ _ _ h => h) (Or.inl ⟨by rfl, fun wx hx => by go_simp⟩) hT0 ?_
    try dsimp only
    try simp only [Act.put, List.getElem_toArray, List.getElem_cons_succ, List.getElem_cons_zero, List.setIfInBounds_toArray, List.set_cons_zero, List.set_cons_succ]
    refine wpAnyH_take (i := 2) (v := (.int .i64 a)) rfl (by kernel_rfl) (by kernel_rfl) (by kernel_rfl) (fun _ _ _ h => h) (Or.inl ⟨by rfl, fun wx hx => by have hx1 := hx.2.1; go_simp⟩) hT0 ?_
    try dsimp only
    try simp only [Act.put, List.getElem_toArray, List.getElem_cons_succ, List.getElem_cons_zero, List.setIfInBounds_toArray, List.set_cons_zero, List.set_cons_succ]
    refine wpAnyH_take (i := 3) (v := (.pointer (some ⟨bg, 0, none⟩))) rfl (by kernel_rfl) (by kernel_rfl) (by kernel_rfl) (fun _ _ _ h => h) (Or.inl ⟨by rfl, fun wx hx => by go_simp⟩) hT0 ?_
    try dsimp only
    try simp only [Act.put, List.getElem_toArray, List.getElem_cons_succ, List.getElem_cons_zero, List.setIfInBounds_toArray, List.set_cons_zero, List.set_cons_succ]
    refine wpAnyH_take (i := 4) (v := (.pointer (some ⟨bg, 0, none⟩))) rfl (by kernel_rfl) (by kernel_rfl) (by kernel_rfl) (fun _ _ _ h => h) (Or.inl ⟨by rfl, fun wx hx => by go_simp⟩) hT0 ?_
    try dsimp only
    try simp only [Act.put, List.getElem_toArray, List.getElem_cons_succ, List.getElem_cons_zero, List.setIfInBounds_toArray, List.set_cons_zero, List.set_cons_succ]
    refine wpAnyH_take (i := 5) (v := (.pointer (some ⟨bg, 2, none⟩))) rfl (by kernel_rfl) (by kernel_rfl) (by kernel_rfl) (fun _ _ _ h => h) (Or.inl ⟨by rfl, fun wx hx => by go_simp⟩) hT0 ?_
    try dsimp only
    try simp only [Act.put, List.getElem_toArray, List.getElem_cons_succ, List.getElem_cons_zero, List.setIfInBounds_toArray, List.set_cons_zero, List.set_cons_succ]
    refine wpAnyH_take (i := 6) (v := (.slice (some ⟨gd, od, none⟩) vn vc)) rfl (by kernel_rfl) (by kernel_rfl) (by kernel_rfl) (fun _ _ _ h => h) (Or.inl ⟨by rfl, fun wx hx => by have hx1 := hx.1; go_simp⟩) hT0 ?_
    try dsimp only
    try simp only [Act.put, List.getElem_toArray, List.getElem_cons_succ, List.getElem_cons_zero, List.setIfInBounds_toArray, List.set_cons_zero, List.set_cons_succ]
    refine wpAnyH_take (i := 7) (v := (.pointer (some ⟨bx, 2, none⟩))) rfl (by kernel_rfl) (by kernel_rfl) (by kernel_rfl) (fun _ _ _ h => h) (Or.inl ⟨by rfl, fun wx hx => by go_simp⟩) hT0 ?_
    try dsimp only
    try simp only [Act.put, List.getElem_toArray, List.getElem_cons_succ, List.getElem_cons_zero, List.setIfInBounds_toArray, List.set_cons_zero, List.set_cons_succ]
    refine wpAnyH_take (i := 8) (v := (.int .i64 b)) rfl (by kernel_rfl) (by kernel_rfl) (by kernel_rfl) (fun _ _ _ h => h) (Or.inl ⟨by rfl, fun wx hx => by have hx1 := hx.2.2.1; go_simp⟩) hT0 ?_
    try dsimp only
    try simp only [Act.put, List.getElem_toArray, List.getElem_cons_succ, List.getElem_cons_zero, List.setIfInBounds_toArray, List.set_cons_zero, List.set_cons_succ]
    refine wpAnyH_take (i := 9) (v := (.pointer (some ⟨bg, 0, none⟩))) rfl (by kernel_rfl) (by kernel_rfl) (by kernel_rfl) (fun _ _ _ h => h) (Or.inl ⟨by rfl, fun wx hx => by go_simp⟩) hT0 ?_
    try dsimp only
    try simp only [Act.put, List.getElem_toArray, List.getElem_cons_succ, List.getElem_cons_zero, List.setIfInBounds_toArray, List.set_cons_zero, List.set_cons_succ]
    refine wpAnyH_take (i := 10) (v := (.pointer (some ⟨bg, 0, none⟩))) rfl (by kernel_rfl) (by kernel_rfl) (by kernel_rfl) (fun _ _ _ h => h) (Or.inl ⟨by rfl, fun wx hx => by go_simp⟩) hT0 ?_
    try dsimp only
    try simp only [Act.put, List.getElem_toArray, List.getElem_cons_succ, List.getElem_cons_zero, List.setIfInBounds_toArray, List.set_cons_zero, List.set_cons_succ]
    refine wpAnyH_take (i := 11) (v := (.pointer (some ⟨bg, 2, none⟩))) rfl (by kernel_rfl) (by kernel_rfl) (by kernel_rfl) (fun _ _ _ h => h) (Or.inl ⟨by rfl, fun wx hx => by go_simp⟩) hT0 ?_
    try dsimp only
    try simp only [Act.put, List.getElem_toArray, List.getElem_cons_succ, List.getElem_cons_zero, List.setIfInBounds_toArray, List.set_cons_zero, List.set_cons_succ]
    refine wpAnyH_take (i := 12) (v := (.slice (some ⟨gd, od, none⟩) vn vc)) rfl (by kernel_rfl) (by kernel_rfl) (by kernel_rfl) (fun _ _ _ h => h) (Or.inl ⟨by rfl, fun wx hx => by have hx1 := hx.1; go_simp⟩) hT0 ?_
    try dsimp only
    try simp only [Act.put, List.getElem_toArray, List.getElem_cons_succ, List.getElem_cons_zero, List.setIfInBounds_toArray, List.set_cons_zero, List.set_cons_succ]
    refine wpAnyH_take (i := 13) (v := (.int .i64 vn)) rfl (by kernel_rfl) (by kernel_rfl) (by kernel_rfl) (fun _ _ _ h => h) (Or.inl ⟨by rfl, fun wx hx => by go_simp⟩) hT0 ?_
    try dsimp only
    try simp only [Act.put, List.getElem_toArray, List.getElem_cons_succ, List.getElem_cons_zero, List.setIfInBounds_toArray, List.set_cons_zero, List.set_cons_succ]
    refine wpAnyH_all (rs := [14]) (by kernel_rfl) (by simp) ?_
    intro jj hjj
    simp only [List.mem_cons, List.not_mem_nil, or_false] at hjj
    subst hjj
    refine wpOp_of_wp rfl rfl ?_
    go_simp
    refine (pickL_any b vn w1.drew HFB.out.1 HFB.out.2 hn1 (by omega)).mono ?_
    rintro e w2 ⟨rfl, hw2⟩
    subst hw2
    rw [HPQ.out]
    refine ⟨hT0, ?_⟩
    try dsimp only
    try simp only [Act.put, List.getElem_toArray, List.getElem_cons_succ, List.getElem_cons_zero, List.setIfInBounds_toArray, List.set_cons_zero, List.set_cons_succ]
    refine wpAnyH_take (i := 15) (v := (.pointer (some ⟨gd, od + q * 2, none⟩))) rfl (by kernel_rfl) (by kernel_rfl) (by kernel_rfl) (fun _ _ _ h => h) (Or.inl ⟨by rfl, fun wx hx => by go_simp⟩) hT0 ?_
    try dsimp only
    try simp only [Act.put, List.getElem_toArray, List.getElem_cons_succ, List.getElem_cons_zero, List.setIfInBounds_toArray, List.set_cons_zero, List.set_cons_succ]
    refine wpAnyH_take (i := 16) (v := (.agg #[.int .i64 xf, .slice xp xn xc])) rfl (by kernel_rfl) (by kernel_rfl) (by kernel_rfl) (fun _ _ _ h => h) (yieldsIf_load_pk_mid (by rfl) _ rfl _ _ rfl _ _ (fun wx hx => hx.2.2.2)) hT0 ?_
    try dsimp only
    try simp only [Act.put, List.getElem_toArray, List.getElem_cons_succ, List.getElem_cons_zero, List.setIfInBounds_toArray, List.set_cons_zero, List.set_cons_succ]
    refine wpAnyH_all (rs := [17]) (by kernel_rfl) (by simp) ?_
    intro jj hjj
    simp only [List.mem_cons, List.not_mem_nil, or_false] at hjj
    subst hjj
    refine wpOp_of_wp rfl rfl ?_
    go_simp
    refine (brings_any SR HR.out HQ.out w1.drew own1 B0 bg bs bw t wid m D vl vt vd L T PK (HGA.out.below HR.out below_drew) hm (fun k hk => by
      have hk' : w1.heap.size ≤ k := hk
      rw [HOW.out k (by omega)]; exact HFR.out k (by have := HB1.out.size; omega)) a xf l xp xn xc ha HL.out.1 HL.out.2.1 ((HL.out.2.2.1.below HB1.out).below below_drew) HL.out.2.2.2.1 (by have := HL.out.2.2.2.2.1; omega) (.inr fun b off e => by
      obtain ⟨h1, h2⟩ := HL.out.2.2.2.2.2 b off e
      rw [HOW.out b (by have := HBXE.out; omega)]; exact .inr h2)).mono ?_
    rintro e w3 ⟨rfl, own3, g3, s3, f3⟩
    replace s3 : Same w1 own1 own3 := s3
    replace f3 : Fr own1 notArg w1 w3 := fr_drew f3
    have nx : own1 bx ≠ .free ∧ ¬ notArg (own1 bx) := by rw [HOX.out]; simp [notArg]
    have cg : w3.cell? ⟨bg, 2, none⟩ = some (.slice (some ⟨gd, od, none⟩) vn vc) := by rw [cell_of_row _ _ _ _ _ _ g3.gb.game, ← HVD.out]; rfl
    have rg3 : w3.rangeAt gd (od + q * 2) [.int .i64 xf, .slice xp xn xc] := by
      have hod := g3.gb.od
      rw [← HVD.out] at hod
      obtain ⟨b', off', e', _, h'⟩ := (Own.sl (s := ⟨some ⟨gd, od, none⟩, vn, vc⟩) hod).2.pos 0 (by have := HN.out; omega)
      cases e'
      exact h' q _ HXQ.out
    have hT1 : (fun w' : World => w'.cell? ⟨bg, 2, none⟩ = some (.slice (some ⟨gd, od, none⟩) vn vc) ∧ w'.cell? ⟨bx, 1, none⟩ = some (.int .i64 a) ∧ w'.cell? ⟨bx, 2, none⟩ = some (.int .i64 b) ∧ w'.rangeAt gd (od + q * 2) [.int .i64 xf, .slice xp xn xc]) w3 := ⟨cg, cell_fr f3 x1 nx.1 nx.2, cell_fr f3 x2 nx.1 nx.2, rg3⟩
    refine ⟨hT1, ?_⟩
    try dsimp only
    try simp only [Act.put, List.getElem_toArray, List.getElem_cons_succ, List.getElem_cons_zero, List.setIfInBounds_toArray, List.set_cons_zero, List.set_cons_succ]
    refine wpAnyH_take (i := 18) (v := (.bool true)) rfl (by kernel_rfl) (by kernel_rfl) (by kernel_rfl) (fun _ _ _ h => h) (Or.inl ⟨by rfl, fun wx hx => by go_simp⟩) hT1 ?_
    try dsimp only
    try simp only [Act.put, List.getElem_toArray, List.getElem_cons_succ, List.getElem_cons_zero, List.setIfInBounds_toArray, List.set_cons_zero, List.set_cons_succ]
    refine wpAnyH_done (by kernel_rfl) ?_ _
    have Z : Hid (Nx SR B0 bg bs bw t wid (m + 1) w own w3) := Nx.mk HB1.out (fun k hk => HOW.out k (by have := HBXE.out; omega)) ⟨_, vl, vt, vd, L, T, PK, g3⟩ s3 f3
    clear hT0 hT1 g3 s3 f3 cg rg3 c2 x1 x2
    go_wp2
    go_ret
    exact ⟨rfl, Z.out⟩
theorem step_any (SR : SRT) (R : PR SR) (Q1 : PL SR) (Q2 : PS SR) (Q3 : PD SR) (Q4 : PJ SR) (w : World) (own : Ghost) (B0 bg bs bw : Nat) (t : List Int) (wid : Int) (m : Nat) (hx : GX SR B0 bg bs bw t wid m w own) (hm : m < 100000000) (x : Stp) (ok : StpOk w own x) :
    Calls Tryz.prog 10 #[.pointer (some ⟨bg, 0, none⟩), .agg x.arr] w fun e w' => e = .returned (.bool true) ∧ Nx SR B0 bg bs bw t wid (m + 1) w own w' := by
  obtain ⟨kind, a, b, c, key, v, fr, ⟨p, pn, pc⟩⟩ := x
  obtain ⟨l, l1, l2, l3, l4⟩ := ok.pk
  show Calls Tryz.prog 10 #[.pointer (some ⟨bg, 0, none⟩), .agg #[.int .i64 kind, .int .i64 a, .int .i64 b, .int .i64 c, .string key, .int .i32 v, .int .i64 fr, .slice p pn pc]] w _
  have hob : l = [] ∨ ∀ b off, p = some ⟨b, off, none⟩ → cutO w own b = .arg := by
    rcases l4 with h | h
    · exact .inl h
    · by_cases hl : l = []
      · exact .inl hl
      · refine .inr fun b off e => ?_
        rw [← h b off e]
        exact if_pos (l2.lt hl b off e)
  by_cases h1 : kind = 1
  · subst h1; exact step1_any SR R w own B0 bg bs bw t wid m hx hm a b c v fr key p pn pc ok.a ok.b ok.c
  by_cases h2 : kind = 2
  · subst h2; exact step2_any SR R w own B0 bg bs bw t wid m hx hm a b c v fr key p pn pc ok.a ok.b ok.c
  by_cases h3 : kind = 3
  · subst h3; exact (step3_any SR R Q1 w (cutO w own) B0 bg bs bw t wid m (hx.cut R) hm (cut_at w own) a b c v fr key p pn pc ok.a ok.b ok.key ok.v0 ok.v1).mono fun e w' ⟨h1, h2⟩ => ⟨h1, h2.cut⟩
  by_cases h4 : kind = 4
  · subst h4; exact (step4_any SR R Q1 w (cutO w own) B0 bg bs bw t wid m (hx.cut R) hm (cut_at w own) a b c v fr key p pn pc ok.a ok.b ok.key ok.v0 ok.v1).mono fun e w' ⟨h1, h2⟩ => ⟨h1, h2.cut⟩
  by_cases h5 : kind = 5
  · subst h5; exact (step5_any SR R Q2 w (cutO w own) B0 bg bs bw t wid m (hx.cut R) hm (cut_at w own) a b c v fr key p pn pc ok.a ok.b ok.key ok.v0 ok.v1).mono fun e w' ⟨h1, h2⟩ => ⟨h1, h2.cut⟩
  by_cases h6 : kind = 6
  · subst h6; exact (step6_any SR R Q2 w (cutO w own) B0 bg bs bw t wid m (hx.cut R) hm (cut_at w own) a b c v fr key p pn pc ok.a ok.b ok.key ok.v0 ok.v1).mono fun e w' ⟨h1, h2⟩ => ⟨h1, h2.cut⟩
  by_cases h7 : kind = 7
  · subst h7; exact step7_any SR R Q3 w own B0 bg bs bw t wid m hx hm a b c v fr key p pn pc ok.a ok.b ok.c
  by_cases h8 : kind = 8
  · subst h8; exact (step8_any SR R Q4 w (cutO w own) B0 bg bs bw t wid m (hx.cut R) hm (cut_at w own) a b c v fr key p pn pc ok.a ok.b).mono fun e w' ⟨h1, h2⟩ => ⟨h1, h2.cut⟩
  by_cases h9 : kind = 9
  · subst h9; exact (step9_any SR R Q4 w (cutO w own) B0 bg bs bw t wid m (hx.cut R) hm (cut_at w own) a b c v fr key p pn pc ok.a ok.fr l l1 l2 l3 ok.small hob).mono fun e w' ⟨h1, h2⟩ => ⟨h1, h2.cut⟩
  exact stepN_any SR R w own B0 bg bs bw t wid m hx hm kind a b c v fr key p pn pc (by omega)
end Go.Proofs.YtpglbakcjihohaaGreat

/-! 'begin': both stores begin, or neither. -/
namespace Go.Proofs.YtpglbakcjihohaaGreat
open Go.RowKit
set_option maxRecDepth 100000

theorem roomedN_take (l : List Int) : (roomedN l 8).take l.length = l := by simp [roomedN]
theorem RoomyN.rows {w : World} {base g : Nat} {l : List Int} (ho : Own clInt w base 3 (.slice (some ⟨g, 0, none⟩) (l.length + 8) (l.length + 8)) (roomedN l 8)) : RowsAt clInt w (some ⟨g, 0, none⟩) l := by
  obtain ⟨p', c', e, _, _, hr⟩ := ho.form
  injection e with e1 e2 e3
  subst e1
  have := hr.take l.length
  rw [roomedN_take] at this
  exact this
/-- Whose each block is at the start: all are arguments'. -/
def own0 (w : World) : Ghost := fun k => if k < w.heap.size then .arg else .free
theorem rep_get {k N : Nat} {d : Nd} (h : (List.replicate N Nd.zero)[k]? = some d) : d = Nd.zero := by
  obtain ⟨hk, e⟩ := List.getElem?_eq_some_iff.1 h
  rw [← e]; simp
/-- What begin leaves where both begin. -/
def Beg (SR : SRT) (t : List Int) (wid : Int) (w w' : World) (bg bs bw : Nat) : Prop := ∃ own', GX SR w.heap.size bg bs bw t wid 0 w' own' ∧ ∀ k, k < w.heap.size → own' k = .arg
theorem beg_done {SR : SRT} (R : PR SR) {t : List Int} {wid : Int} (hT : Tree t) {w w4 w5 : World} {own2 own5 : Ghost} {bs bw : Nat} {vt vn : Sl} {C : List NdC} (hb4 : Below w.heap.size w w4) (ha : ∀ k, k < w.heap.size → own2 k = .arg) (hs : SR w4 own2 w.heap.size bs t wid (List.replicate t.length Nd.zero)) (hw : WRep w5 own5 w.heap.size bw t wid (List.replicate t.length Nd.zero) vt vn C) (sm : Same w4 own2 own5) (hb5 : Below w4.heap.size w4 w5) :
    Beg SR t wid w (w5.alloc (.cells #[.pointer (some ⟨bs, 0, none⟩), .pointer (some ⟨bw, 0, none⟩), .slice none 0 0, .slice none 0 0, .slice none 0 0] 42)) w5.heap.size bs bw := by
  have h4 := hb4.size
  have h5 := hb5.size
  have sm5 : Same w5 own5 (fun k => if k = w5.heap.size then .gm else own5 k) := fun k hk _ => if_neg (by omega)
  have fr5 : ∀ S : Tag → Prop, Fr own5 S w5 (w5.alloc (.cells #[.pointer (some ⟨bs, 0, none⟩), .pointer (some ⟨bw, 0, none⟩), .slice none 0 0, .slice none 0 0, .slice none 0 0] 42)) := fun S => Fr.of_below (below_alloc _ _)
  have s5 : SR w5 own5 w.heap.size bs t wid (List.replicate t.length Nd.zero) := R.chg (S := fun _ => False) hs (Fr.of_below hb5) sm fun _ h => h
  refine ⟨fun k => if k = w5.heap.size then .gm else own5 k, ⟨List.replicate t.length Nd.zero, ⟨none, 0, 0⟩, ⟨none, 0, 0⟩, ⟨none, 0, 0⟩, [], [], [], ⟨⟨heap_alloc_new _ _, if_pos rfl, by simp; omega, ?_, Own.nil _ _ _, (fun k hk => by cases hk), (fun x hx => by simp at hx)⟩, R.chg (S := fun _ => False) s5 (fr5 _) sm5 fun _ h => h, ⟨vt, vn, C, hw.chg (S := fun _ => False) (fr5 _) sm5 fun _ h => h⟩, fun k d hd => ?_, by simp, by simp⟩⟩, fun k hk => ?_⟩
  · exact ⟨rfl, Own.nil _ _ _, Own.nil _ _ _, (fun k hk => by cases hk), (fun k hk => by cases hk), (fun k s hk => by simp at hk), (fun k s hk => by simp at hk), (fun s hs => by simp at hs), (fun s hs => by simp at hs)⟩
  · rw [rep_get hd]; exact ⟨by simp [Nd.zero], by simp [Nd.zero], Good.nil, Good.nil⟩
  · have e2 := ha k hk
    have e5 := sm k (by omega) (by rw [e2]; simp)
    show (if k = w5.heap.size then Tag.gm else own5 k) = .arg
    rw [if_neg (by omega), e5, e2]
theorem beg_sr {SR : SRT} (R : PR SR) {t : List Int} {wid : Int} {w w1 w2 w3 w4 : World} {bs g : Nat} (hsr : ∀ (own : Ghost) (B0 : Nat), B0 ≤ w1.heap.size → ∃ own', SR w2 own' B0 bs t wid (List.replicate t.length Nd.zero) ∧ Same w1 own own') (b1 : Below w.heap.size w w1) (b3 : Below w2.heap.size w2 w3) (g4 : w3.grownBy w4 (some g)) (hg : g < w1.heap.size) (h4 : w.heap.size ≤ w4.heap.size) :
    ∃ own2, SR w4 own2 w.heap.size bs t wid (List.replicate t.length Nd.zero) ∧ (∀ k, k < w.heap.size → own2 k = .arg) ∧ w.heap.size ≤ w4.heap.size := by
  obtain ⟨own2, hs2, sm2⟩ := hsr (fun k => if k < w1.heap.size then .arg else .free) w.heap.size b1.size
  have all : ∀ k, k < w1.heap.size → own2 k = .arg := fun k hk => by
    have e : (fun k => if k < w1.heap.size then Tag.arg else Tag.free) k = .arg := if_pos hk
    rw [sm2 k hk (by rw [e]; simp)]; exact e
  exact ⟨own2, R.chg (S := fun t => t = .arg) (R.below hs2 b3) (Fr.of_grown g4 fun k hk => by cases hk; exact .inr (all g hg)) (Same.refl _ _) (fun i => by simp), fun k hk => all k (by have := b1.size; omega), h4⟩
set_option maxHeartbeats 4000000 in
theorem lbegin_any (SR : SRT) (R : PR SR) (t : List Int) (p : Option Addr) (n c : Nat) (wid : Int) (w : World) (hn : t.length = n) (hr : RowsAt clInt w p t) (hm : n ≤ 100000000) (hw : fitsI wid) :
    Calls Tryz.prog 9 #[.slice p n c, .int .i64 wid] w fun e w' => Below w.heap.size w w' ∧ (e = .returned (.tuple #[.pointer none, .bool true]) ∨ ∃ bg bs bw, e = .returned (.tuple #[.pointer (some ⟨bg, 0, none⟩), .bool true]) ∧ Beg SR t wid w w' bg bs bw) := by
  have HRW : Hid (RowsAt clInt w p t) := hr
  have HR : Hid (PR SR) := R
  clear hr R
  obtain ⟨b, hb⟩ : ∃ b, isTr t = b := ⟨_, rfl⟩
  have HBT : Hid (isTr t = b) := hb
  obtain ⟨d, hd⟩ : ∃ d, isWid wid = d := ⟨_, rfl⟩
  have HBW : Hid (isWid wid = d) := hd
  cases b with
  | false =>
    have HE : Hid (newE t wid = 1) := by unfold Hid newE; rw [if_neg (by rw [hb]; simp)]
    have HNZ : Hid (newE t wid ≠ 0) := by unfold Hid; rw [HE.out]; decide
    clear hb hd
    go_enter Tryz.func9, Tryz.ntmps9
    go_wp2_with (first | (go_at_call 13; refine (roomy_any t p n c _ hn HRW.out (by omega)).mono ?_; rintro e w1 ⟨q, rfl, hry, hb1⟩; obtain ⟨g, rfl, hoq⟩ := hry; have HO1 : Hid (Own clInt w1 w.heap.size 3 (.slice (some ⟨g, 0, none⟩) (t.length + 8) (t.length + 8)) (roomedN t 8)) := hoq; have HB1 : Hid (Below w.heap.size w w1) := hb1; have hg1 := hoq.lt g rfl; clear hoq hb1) | (go_at_call 14; refine (HR.out.new t _ n _ wid w1 hn (RoomyN.rows HO1.out) (by omega) hw).mono ?_; rintro e w2 ⟨hb2, h2⟩; obtain ⟨_, rfl⟩ := h2.resolve_left (fun h => HNZ.out h.1); rw [HE.out]; have HB2 : Hid (Below w1.heap.size w1 w2) := hb2; clear hb2 h2) | (go_at_call 15; refine (untouched_any t _ p n _ w.heap.size _ hn ⟨g, rfl, HO1.out.below HB2.out⟩ (HRW.out.below (bnext HB1.out HB2.out)) (by omega)).mono ?_; rintro e w3 ⟨rfl, hb3⟩; have HB3 : Hid (Below w2.heap.size w2 w3) := hb3; have HO3 : Hid (Own clInt w3 w.heap.size 3 (.slice (some ⟨g, 0, none⟩) (t.length + 8) (t.length + 8)) (roomedN t 8)) := (HO1.out.below HB2.out).below hb3; clear hb3) | (go_at_call 16; refine (blot_any (roomedN t 8) g n (n + 8) w.heap.size w3 (by rw [roomedN_len t 8 (by omega)]; omega) (by rw [roomedN_len t 8 (by omega)]; have hoq := HO3.out; rw [hn] at hoq ⊢; exact hoq) (by omega)).mono ?_; rintro e w4 ⟨rfl, hg4⟩; have HG4 : Hid (w3.grownBy w4 (some g)) := hg4; have HB4 : Hid (Below w.heap.size w w4) := (bnext (bnext HB1.out HB2.out) HB3.out).trans (grown_below hg4 _ (bnext (bnext HB1.out HB2.out) HB3.out).size (fun k hk => by cases hk; exact hg1.1)); clear hg4) | (go_at_call 17; refine (isTree_any t p n c _ hn (HRW.out.below HB4.out) (by omega)).mono ?_; rintro e wA ⟨rfl, hwA⟩; have hwA := hwA.symm; subst hwA; rw [HBT.out]) | (go_at_call 18; refine (isWidth_any wid _).mono ?_; rintro e wA ⟨rfl, hwA⟩; have hwA := hwA.symm; subst hwA; rw [HBW.out]) | (go_at_call 19; refine (num_any _ _ ⟨by decide, by decide⟩).mono ?_; rintro e wA ⟨rfl, hwA⟩; have hwA := hwA.symm; subst hwA))
    go_ret2
    exact ⟨HB4.out, .inl rfl⟩
  | true =>
    have HT : Hid (Tree t) := (isTr_iff t).1 hb
    cases d with
    | false =>
      have HE : Hid (newE t wid = 8) := by unfold Hid newE; rw [if_pos hb, if_neg (by rw [hd]; simp)]
      have HNZ : Hid (newE t wid ≠ 0) := by unfold Hid; rw [HE.out]; decide
      clear hb hd
      go_enter Tryz.func9, Tryz.ntmps9
      go_wp2_with (first | (go_at_call 13; refine (roomy_any t p n c _ hn HRW.out (by omega)).mono ?_; rintro e w1 ⟨q, rfl, hry, hb1⟩; obtain ⟨g, rfl, hoq⟩ := hry; have HO1 : Hid (Own clInt w1 w.heap.size 3 (.slice (some ⟨g, 0, none⟩) (t.length + 8) (t.length + 8)) (roomedN t 8)) := hoq; have HB1 : Hid (Below w.heap.size w w1) := hb1; have hg1 := hoq.lt g rfl; clear hoq hb1) | (go_at_call 14; refine (HR.out.new t _ n _ wid w1 hn (RoomyN.rows HO1.out) (by omega) hw).mono ?_; rintro e w2 ⟨hb2, h2⟩; obtain ⟨_, rfl⟩ := h2.resolve_left (fun h => HNZ.out h.1); rw [HE.out]; have HB2 : Hid (Below w1.heap.size w1 w2) := hb2; clear hb2 h2) | (go_at_call 15; refine (untouched_any t _ p n _ w.heap.size _ hn ⟨g, rfl, HO1.out.below HB2.out⟩ (HRW.out.below (bnext HB1.out HB2.out)) (by omega)).mono ?_; rintro e w3 ⟨rfl, hb3⟩; have HB3 : Hid (Below w2.heap.size w2 w3) := hb3; have HO3 : Hid (Own clInt w3 w.heap.size 3 (.slice (some ⟨g, 0, none⟩) (t.length + 8) (t.length + 8)) (roomedN t 8)) := (HO1.out.below HB2.out).below hb3; clear hb3) | (go_at_call 16; refine (blot_any (roomedN t 8) g n (n + 8) w.heap.size w3 (by rw [roomedN_len t 8 (by omega)]; omega) (by rw [roomedN_len t 8 (by omega)]; have hoq := HO3.out; rw [hn] at hoq ⊢; exact hoq) (by omega)).mono ?_; rintro e w4 ⟨rfl, hg4⟩; have HG4 : Hid (w3.grownBy w4 (some g)) := hg4; have HB4 : Hid (Below w.heap.size w w4) := (bnext (bnext HB1.out HB2.out) HB3.out).trans (grown_below hg4 _ (bnext (bnext HB1.out HB2.out) HB3.out).size (fun k hk => by cases hk; exact hg1.1)); clear hg4) | (go_at_call 17; refine (isTree_any t p n c _ hn (HRW.out.below HB4.out) (by omega)).mono ?_; rintro e wA ⟨rfl, hwA⟩; have hwA := hwA.symm; subst hwA; rw [HBT.out]) | (go_at_call 18; refine (isWidth_any wid _).mono ?_; rintro e wA ⟨rfl, hwA⟩; have hwA := hwA.symm; subst hwA; rw [HBW.out]) | (go_at_call 19; refine (num_any _ _ ⟨by decide, by decide⟩).mono ?_; rintro e wA ⟨rfl, hwA⟩; have hwA := hwA.symm; subst hwA))
      go_ret2
      exact ⟨HB4.out, .inl rfl⟩
    | true =>
      have HE : Hid (newE t wid = 0) := by unfold Hid newE; rw [if_pos hb, if_pos hd]
      have HWD : Hid (1 ≤ wid ∧ wid ≤ 1000) := by unfold Hid; simpa [isWid] using hd
      clear hb hd
      go_enter Tryz.func9, Tryz.ntmps9
      go_wp2_with (first | (go_at_call 13; refine (roomy_any t p n c _ hn HRW.out (by omega)).mono ?_; rintro e w1 ⟨q, rfl, hry, hb1⟩; obtain ⟨g, rfl, hoq⟩ := hry; have HO1 : Hid (Own clInt w1 w.heap.size 3 (.slice (some ⟨g, 0, none⟩) (t.length + 8) (t.length + 8)) (roomedN t 8)) := hoq; have HB1 : Hid (Below w.heap.size w w1) := hb1; have hg1 := hoq.lt g rfl; clear hoq hb1) | (go_at_call 14; refine (HR.out.new t _ n _ wid w1 hn (RoomyN.rows HO1.out) (by omega) hw).mono ?_; rintro e w2 ⟨hb2, h2⟩; obtain ⟨_, bs, rfl, hsr⟩ := h2.resolve_right (fun h => h.1 HE.out); have HB2 : Hid (Below w1.heap.size w1 w2) := hb2; have HSR : Hid (∀ (own : Ghost) (B0 : Nat), B0 ≤ w1.heap.size → ∃ own', SR w2 own' B0 bs t wid (List.replicate t.length Nd.zero) ∧ Same w1 own own') := hsr; clear hb2 hsr h2) | (go_at_call 15; refine (untouched_any t _ p n _ w.heap.size _ hn ⟨g, rfl, HO1.out.below HB2.out⟩ (HRW.out.below (bnext HB1.out HB2.out)) (by omega)).mono ?_; rintro e w3 ⟨rfl, hb3⟩; have HB3 : Hid (Below w2.heap.size w2 w3) := hb3; have HO3 : Hid (Own clInt w3 w.heap.size 3 (.slice (some ⟨g, 0, none⟩) (t.length + 8) (t.length + 8)) (roomedN t 8)) := (HO1.out.below HB2.out).below hb3; clear hb3) | (go_at_call 16; refine (blot_any (roomedN t 8) g n (n + 8) w.heap.size w3 (by rw [roomedN_len t 8 (by omega)]; omega) (by rw [roomedN_len t 8 (by omega)]; have hoq := HO3.out; rw [hn] at hoq ⊢; exact hoq) (by omega)).mono ?_; rintro e w4 ⟨rfl, hg4⟩; have HG4 : Hid (w3.grownBy w4 (some g)) := hg4; have HB4 : Hid (Below w.heap.size w w4) := (bnext (bnext HB1.out HB2.out) HB3.out).trans (grown_below hg4 _ (bnext (bnext HB1.out HB2.out) HB3.out).size (fun k hk => by cases hk; exact hg1.1)); clear hg4; have HS4 : Hid (∃ own2, SR w4 own2 w.heap.size bs t wid (List.replicate t.length Nd.zero) ∧ (∀ k, k < w.heap.size → own2 k = .arg) ∧ w.heap.size ≤ w4.heap.size) := beg_sr HR.out HSR.out HB1.out HB3.out HG4.out hg1.2 HB4.out.size) | (go_at_call 17; refine (isTree_any t p n c _ hn (HRW.out.below HB4.out) (by omega)).mono ?_; rintro e wA ⟨rfl, hwA⟩; have hwA := hwA.symm; subst hwA; rw [HBT.out]) | (go_at_call 18; refine (isWidth_any wid _).mono ?_; rintro e wA ⟨rfl, hwA⟩; have hwA := hwA.symm; subst hwA; rw [HBW.out]) | (go_at_call 19; refine (num_any _ _ ⟨by decide, by decide⟩).mono ?_; rintro e wA ⟨rfl, hwA⟩; have hwA := hwA.symm; subst hwA) | (go_at_call 20; obtain ⟨own2, hs2, ha2, hb0⟩ := HS4.out; refine (begin_any t HT.out wid HWD.out.1 HWD.out.2 p n c w4 own2 w.heap.size hb0 hn (HRW.out.below HB4.out)).mono ?_; rintro e w5 ⟨rfl, own5, vt, vn, C, hw5, hsm5, hb5⟩; have Z : Hid (Beg SR t wid w (w5.alloc (.cells #[.pointer (some ⟨bs, 0, none⟩), .pointer (some ⟨w4.heap.size, 0, none⟩), .slice none 0 0, .slice none 0 0, .slice none 0 0] 42)) w5.heap.size bs w4.heap.size) := beg_done HR.out HT.out HB4.out ha2 hs2 hw5 hsm5 hb5; have HB5 : Hid (Below w.heap.size w w5) := bnext HB4.out hb5; clear hw5 hsm5 hb5 hs2 ha2))
      go_ret2
      exact ⟨bnext HB5.out (below_alloc _ _), .inr ⟨_, bs, _, rfl, Z.out⟩⟩
end Go.Proofs.YtpglbakcjihohaaGreat

/-! 'plays': for every tree, width, script and last kind: true, and the arguments stay. -/
namespace Go.Proofs.YtpglbakcjihohaaGreat
open Go.RowKit
set_option maxRecDepth 100000

theorem StpOk.chg {w w' : World} {own own' : Ghost} {x : Stp} (h : StpOk w own x) (s : Same w own own') (f : Fr own notArg w w') : StpOk w' own' x := by
  refine ⟨h.kind, h.a, h.b, h.c, h.key, h.v0, h.v1, h.fr, h.small, ?_⟩
  obtain ⟨l, h1, h2, h3, h4⟩ := h.pk
  by_cases hl : l = []
  · exact ⟨l, h1, .inl hl, h3, .inl hl⟩
  · rcases h4 with e | h4
    · exact absurd e hl
    · refine ⟨l, h1, h2.chg f.size fun b off e => ?_, h3, .inr fun b off e => ?_⟩
      · exact f.block b (h2.lt hl b off e) (by rw [h4 b off e]; simp) (by rw [h4 b off e]; simp [notArg])
      · rw [s b (h2.lt hl b off e) (by rw [h4 b off e]; simp)]; exact h4 b off e
section
variable {ops : Array Oper} {rest : List Oper} {o : Oper} {a : Act} {w : World} {Q : Exit → Act → World → Prop}
theorem load_stp_mid (hgd : o.guard = none) (x : Operand) (ho : o.op = .load 33 x) (g off : Nat) (hx : a.eval x = .pointer (some ⟨g, off, none⟩)) (s : Stp)
    (hg : w.rangeAt g off (clStp.cells s)) (h : wpList Tryz.prog ops Q rest (a.put o.dst (.agg s.arr)) w) : wpList Tryz.prog ops Q (o :: rest) a w :=
  wpList_step fun K hK => by
    rw [if_pos (by unfold Region.wanted; rw [hgd])]
    have hl := run_loadVar_mid (P := Tryz.prog) w g off 33 (clStp.cells s) _ hg Tryz.underlying33 rfl (by rw [Cl.len]; exact info_stp)
    unfold Oper.wp execOp
    simp only [ho, hx, Instr.loadAt, Instr.sureAddr, Sem.run_bind, Sem.run_pure, Result.andThen_ok, hl]
    exact hK _ _ h
end
theorem RowsAt.frA {α : Type} {C : Cl α} {own : Ghost} {w w' : World} {p : Option Addr} {l : List α} (h : RowsAt C w p l) (f : Fr own notArg w w') (ha : ∀ k, k < w.heap.size → own k = .arg) : RowsAt C w' p l := by
  rcases h with h | ⟨b, off, e, hb, hc⟩
  · exact .inl h
  · refine RowsAt.chg (.inr ⟨b, off, e, hb, hc⟩) f.size fun b' off' e' => ?_
    rw [e] at e'; cases e'
    exact f.block b hb (by rw [ha b hb]; simp) (by rw [ha b hb]; simp [notArg])
/-- What a play has in memory behind i steps. -/
def Pl (SR : SRT) (t : List Int) (wid : Int) (w : World) (bg bs bw i : Nat) (wr : World) : Prop := ∃ own', GX SR w.heap.size bg bs bw t wid i wr own' ∧ Same w (own0 w) own' ∧ Fr (own0 w) notArg w wr
theorem own0_arg (w : World) (k : Nat) (hk : k < w.heap.size) : own0 w k = .arg := if_pos hk
theorem Pl.start {SR : SRT} {t : List Int} {wid : Int} {w w' : World} {bg bs bw : Nat} (hb : Below w.heap.size w w') (h : Beg SR t wid w w' bg bs bw) : Pl SR t wid w bg bs bw 0 w' := by
  obtain ⟨own', h1, h2⟩ := h
  exact ⟨own', h1, fun k hk _ => by rw [h2 k hk, own0_arg w k hk], Fr.of_below hb⟩
theorem Pl.next {SR : SRT} {t : List Int} {wid : Int} {w w1 w2 : World} {bg bs bw m : Nat} {own' : Ghost} (s : Same w (own0 w) own') (f : Fr (own0 w) notArg w w1) (h : Nx SR w.heap.size bg bs bw t wid m w1 own' w2) : Pl SR t wid w bg bs bw m w2 := by
  obtain ⟨own2, h1, h2, h3⟩ := h
  exact ⟨own2, h1, s.trans f.size h2, f.trans s h3⟩
theorem Pl.below {SR : SRT} {t : List Int} {wid : Int} {w wr : World} {bg bs bw i : Nat} (h : Pl SR t wid w bg bs bw i wr) : Below w.heap.size w wr := by
  obtain ⟨_, _, _, f⟩ := h
  exact ⟨f.os, f.tape, f.output, f.size, fun k hk => f.block k hk (by rw [own0_arg w k hk]; simp) (by rw [own0_arg w k hk]; simp [notArg])⟩
theorem Pl.mono {SR : SRT} {t : List Int} {wid : Int} {w wr : World} {bg bs bw i j : Nat} (h : Pl SR t wid w bg bs bw i wr) (hij : i ≤ j) : Pl SR t wid w bg bs bw j wr := by
  obtain ⟨own', h1, h2, h3⟩ := h
  exact ⟨own', h1.mono hij, h2, h3⟩
set_option maxHeartbeats 4000000 in
theorem plays_any (SR : SRT) (R : PR SR) (Q1 : PL SR) (Q2 : PS SR) (Q3 : PD SR) (Q4 : PJ SR) (t : List Int) (p : Option Addr) (n c : Nat) (wid last : Int) (ps : Option Addr) (sn sc : Nat) (steps : List Stp) (w : World) (hn : t.length = n) (hr : RowsAt clInt w p t) (hm : n ≤ 100000000) (hw : fitsI wid) (hs : steps.length = sn) (hrs : RowsAt clStp w ps steps) (hsm : sn ≤ 10000000) (hok : ∀ x ∈ steps, StpOk w (own0 w) x) :
    Calls Tryz.prog 8 #[.slice p n c, .int .i64 wid, .slice ps sn sc, .int .i64 last] w fun e w' => e = .returned (.bool true) ∧ Below w.heap.size w w' := by
  have HR : Hid (PR SR) := R
  have HQ : Hid (PL SR ∧ PS SR ∧ PD SR ∧ PJ SR) := ⟨Q1, Q2, Q3, Q4⟩
  have HRW : Hid (RowsAt clInt w p t) := hr
  have HRS : Hid (RowsAt clStp w ps steps) := hrs
  have HOK : Hid (∀ x ∈ steps, StpOk w (own0 w) x) := hok
  clear R Q1 Q2 Q3 Q4 hr hrs hok
  go_enter Tryz.func8, Tryz.ntmps8
  go_wp
  go_at_call 9
  refine (lbegin_any SR HR.out t p n c wid w hn HRW.out hm hw).mono ?_
  rintro e w1 ⟨hb1, h1⟩
  have HB1 : Hid (Below w.heap.size w w1) := hb1
  rcases h1 with rfl | ⟨bg, bs, bw, rfl, hbeg⟩
  · clear hb1
    go_wp2
    go_ret
    exact ⟨rfl, HB1.out⟩
  · have HP : Hid (Pl SR t wid w bg bs bw 0 w1) := Pl.start hb1 hbeg
    clear hb1 hbeg
    go_wp2
    go_loopw [11] (fun iv wr => ∃ i : Nat, i ≤ sn ∧ iv = .int .i64 i ∧ Pl SR t wid w bg bs bw i wr) (fun iv _ => sn - (intOf iv).toNat)
    case atStart => exact ⟨0, by omega, rfl, HP.out⟩
    case round =>
      clear HP
      obtain ⟨i, hi, rfl, hpl⟩ := hrel
      have HPL : Hid (Pl SR t wid w bg bs bw i wr) := hpl
      obtain ⟨own', hgx, hsm', hfr⟩ := hpl
      have HG : Hid (GX SR w.heap.size bg bs bw t wid i wr own') := hgx
      have HSF : Hid (Same w (own0 w) own' ∧ Fr (own0 w) notArg w wr) := ⟨hsm', hfr⟩
      by_cases hli : i < sn
      · obtain ⟨x, hx⟩ : ∃ x, steps[i]? = some x := ⟨_, List.getElem?_eq_getElem (by omega)⟩
        obtain ⟨b0, off, rfl, hlt, hcx⟩ := (HRS.out.frA hfr (own0_arg w)).pos i (by omega)
        have rg : Hid (wr.rangeAt b0 (off + i * 8) (clStp.cells x)) := hcx i x hx
        have k0 : wr.cell? ⟨b0, off + i * 8, none⟩ = some (.int .i64 x.kind) := rg.out 0 _ rfl
        have HSO : Hid (StpOk wr own' x) := (HOK.out x (List.mem_of_getElem? hx)).chg hsm' hfr
        obtain ⟨kd, hkd⟩ : ∃ kd, x.kind = kd := ⟨_, rfl⟩
        rw [hkd] at k0
        clear hcx hx hgx hsm' hfr hkd
        by_cases hgt : last < kd
        · have HPN : Hid (Pl SR t wid w bg bs bw (i + 1) wr) := HPL.out.mono (by omega)
          go_wp2
          go_roundw
          case rel => exact ⟨i + 1, by omega, by go_num, HPN.out⟩
          case measure => simp [intOf]; omega
        · go_wp2_with (first | (refine load_stp_mid rfl _ rfl b0 (off + i * 8) rfl x (by exact rg.out) ?_) | (go_at_call 10; refine (step_any SR HR.out HQ.out.1 HQ.out.2.1 HQ.out.2.2.1 HQ.out.2.2.2 wr own' w.heap.size bg bs bw t wid i HG.out (by omega) x HSO.out).mono ?_; rintro e w3 ⟨rfl, own3, hg3, hsm3, hfr3⟩; have HG3 : Hid (GX SR w.heap.size bg bs bw t wid (i + 1) w3 own3) := hg3; have HSF3 : Hid (Same w (own0 w) own3 ∧ Fr (own0 w) notArg w w3) := ⟨HSF.out.1.trans HSF.out.2.size hsm3, HSF.out.2.trans HSF.out.1 hfr3⟩; clear hg3 hsm3 hfr3 k0) | (go_at_call 11; refine (reads_game SR HR.out w3 own3 w.heap.size bg bs bw t wid (i + 1) HG3.out (by omega)).mono ?_; rintro e w4 ⟨rfl, hn4⟩; have HPN : Hid (Pl SR t wid w bg bs bw (i + 1) w4) := Pl.next HSF3.out.1 HSF3.out.2 hn4; clear hn4))
          go_roundw
          case rel => exact ⟨i + 1, by omega, by go_num, HPN.out⟩
          case measure => simp [intOf]; omega
      · obtain rfl : i = sn := by omega
        clear hgx hsm' hfr
        go_wp2_with (go_at_call 12; refine (end_any SR HR.out wr own' w.heap.size bg bs bw t wid i HG.out (by omega)).mono ?_; rintro e w3 ⟨rfl, hn3⟩; have HPN : Hid (Pl SR t wid w bg bs bw (i + 1000) w3) := Pl.next HSF.out.1 HSF.out.2 hn3; clear hn3)
        go_ret
        exact ⟨rfl, HPN.out.below⟩
end Go.Proofs.YtpglbakcjihohaaGreat

/-! A sketch that comes in as an argument is twenty-eight cells, each a number that fits its kind. -/
namespace Go.Proofs.YtpglbakcjihohaaGreat
open Go.RowKit
set_option maxRecDepth 100000

theorem cellsSk : Tryz.prog.cellsOf 81 = 28 := by kernel_rfl
theorem cellsU16 : Tryz.prog.cellsOf 76 = 1 := by kernel_rfl
theorem cellsU32 : Tryz.prog.cellsOf 77 = 1 := by kernel_rfl
theorem cellsI32 : Tryz.prog.cellsOf 21 = 1 := by kernel_rfl
theorem cellsU8 : Tryz.prog.cellsOf 5 = 1 := by kernel_rfl
theorem cellsRegs : Tryz.prog.cellsOf 78 = 16 := by kernel_rfl
theorem cellsHist : Tryz.prog.cellsOf 79 = 8 := by kernel_rfl

theorem one_of_drop {cs : List Value} {i : Nat} {v : Value} (h : (cs.drop i).take 1 = [v]) : cs[i]? = some v := by
  have := congrArg (fun l => l[0]?) h
  simpa [List.getElem?_take, List.getElem?_drop] using this

section
variable {H : Type} {enc : TypeId × Value → H} {w : World} {base : Nat} {spare : Nat → Bool} {held : Bool}

/-- One cell of an integer kind. -/
theorem cell_int {fuel : Nat} {t : TypeId} {k : IntKind} {cs : List Value} {i : Nat} {x : DataW H × List MemPlace} (ht : Tryz.prog.underlying t = some (.int k))
    (h : DataW.trod enc Tryz.prog w base spare held fuel t ((cs.drop i).take 1) = some x) : ∃ n, cs[i]? = some (.int k n) ∧ (Lit.int k n).wf = true := by
  obtain ⟨n, e, _, hw⟩ := DataW.trod_int ht h
  exact ⟨n, one_of_drop e, hw⟩

/-- A row of bytes from offset o on. -/
theorem cells_bytes {fuel : Nat} {t : TypeId} {m o : Nat} {cs : List Value} {x : DataW H × List MemPlace} (ht : Tryz.prog.underlying t = some (.array m 5))
    (h : DataW.trod enc Tryz.prog w base spare held fuel t ((cs.drop o).take m) = some x) :
    ∀ i, i < m → ∃ n, cs[o + i]? = some (.int .u8 n) ∧ (Lit.int .u8 n).wf = true := by
  obtain ⟨xs, f, _, _, _, hlen, hx⟩ := DataW.trod_array ht h
  intro i hi
  have h1 := hx i hi
  rw [cellsU8, Nat.mul_one, List.getElem?_eq_getElem (by omega)] at h1
  obtain ⟨n, e, hw⟩ := cell_int (k := .u8) Tryz.underlying5 h1
  refine ⟨n, ?_, hw⟩
  rw [List.getElem?_take, if_pos hi, List.getElem?_drop] at e
  exact e

theorem open_sk {fuel : Nat} {cs : List Value} {x : DataW H × List MemPlace} (h : DataW.trod enc Tryz.prog w base spare held fuel 81 cs = some x) :
    ∃ s : Sk, IsSk cs.toArray s ∧ s.Ok := by
  obtain ⟨xs, n, _, _, hl, hlen, hf⟩ := DataW.trod_struct Tryz.underlying81 h
  have hlen' : xs.length = 6 := hlen
  rw [cellsSk] at hl
  have g0 : DataW.trod enc Tryz.prog w base spare held n 76 ((cs.drop 0).take (Tryz.prog.cellsOf 76)) = xs[0]? := hf 0 _ rfl
  have g1 : DataW.trod enc Tryz.prog w base spare held n 77 ((cs.drop 1).take (Tryz.prog.cellsOf 77)) = xs[1]? := hf 1 _ rfl
  have g2 : DataW.trod enc Tryz.prog w base spare held n 21 ((cs.drop 2).take (Tryz.prog.cellsOf 21)) = xs[2]? := hf 2 _ rfl
  have g3 : DataW.trod enc Tryz.prog w base spare held n 21 ((cs.drop 3).take (Tryz.prog.cellsOf 21)) = xs[3]? := hf 3 _ rfl
  have g4 : DataW.trod enc Tryz.prog w base spare held n 78 ((cs.drop 4).take (Tryz.prog.cellsOf 78)) = xs[4]? := hf 4 _ rfl
  have g5 : DataW.trod enc Tryz.prog w base spare held n 79 ((cs.drop 20).take (Tryz.prog.cellsOf 79)) = xs[5]? := hf 5 _ rfl
  rw [cellsU16] at g0
  rw [cellsU32] at g1
  rw [cellsI32] at g2 g3
  rw [cellsRegs] at g4
  rw [cellsHist] at g5
  rw [List.getElem?_eq_getElem (by omega)] at g0 g1 g2 g3 g4 g5
  obtain ⟨c, e0, w0⟩ := cell_int (k := .u16) Tryz.underlying76 g0
  obtain ⟨s, e1, w1⟩ := cell_int (k := .u32) Tryz.underlying77 g1
  obtain ⟨l, e2, w2⟩ := cell_int (k := .i32) Tryz.underlying21 g2
  obtain ⟨g, e3, w3⟩ := cell_int (k := .i32) Tryz.underlying21 g3
  have hr := cells_bytes (o := 4) Tryz.underlying78 g4
  have hh := cells_bytes (o := 20) Tryz.underlying79 g5
  clear g0 g1 g2 g3 g4 g5 hf hlen hlen'
  have b0 := bounds_u16 w0
  have b1 := bounds_u32 w1
  have b2 := bounds_i32 w2
  have b3 := bounds_i32 w3
  refine ⟨⟨c, s, l, g, fun k => if k < 16 then intOf (cs.getD (4 + k) undef) else 0, fun k => if k < 8 then intOf (cs.getD (20 + k) undef) else 0⟩, ?_, ?_⟩
  · show cs.toArray = _
    apply Array.ext_getElem?
    intro i
    by_cases hi : i < 28
    · rw [Sk.get _ i hi]
      rw [List.getElem?_toArray]
      by_cases h0 : i = 0
      · subst h0; rw [e0]; rfl
      by_cases h1 : i = 1
      · subst h1; rw [e1]; rfl
      by_cases h2 : i = 2
      · subst h2; rw [e2]; rfl
      by_cases h3 : i = 3
      · subst h3; rw [e3]; rfl
      by_cases h4 : i < 20
      · obtain ⟨n, en, _⟩ := hr (i - 4) (by omega)
        rw [show 4 + (i - 4) = i by omega] at en
        have hx : i - 4 < 16 := by omega
        rw [en]
        simp [Sk.at, h0, h1, h2, h3, h4, hx, show 4 + (i - 4) = i by omega, List.getD, en, intOf]
      · obtain ⟨n, en, _⟩ := hh (i - 20) (by omega)
        rw [show 20 + (i - 20) = i by omega] at en
        have hx : i - 20 < 8 := by omega
        rw [en]
        simp [Sk.at, h0, h1, h2, h3, h4, hx, show 20 + (i - 20) = i by omega, List.getD, en, intOf]
    · rw [Array.getElem?_eq_none (by simp; omega), Array.getElem?_eq_none (by rw [Sk.size_cells]; omega)]
  · have rb : ∀ k, 0 ≤ (if k < 16 then intOf (cs.getD (4 + k) undef) else 0) ∧ (if k < 16 then intOf (cs.getD (4 + k) undef) else 0) ≤ 255 := fun k => by
      split
      · rename_i hk
        obtain ⟨n, en, wn⟩ := hr k hk
        have := bounds_u8 wn
        simp only [List.getD, en, Option.getD_some, intOf]; omega
      · omega
    have hb : ∀ k, 0 ≤ (if k < 8 then intOf (cs.getD (20 + k) undef) else 0) ∧ (if k < 8 then intOf (cs.getD (20 + k) undef) else 0) ≤ 255 := fun k => by
      split
      · rename_i hk
        obtain ⟨n, en, wn⟩ := hh k hk
        have := bounds_u8 wn
        simp only [List.getD, en, Option.getD_some, intOf]; omega
      · omega
    exact ⟨by simp only []; omega, by simp only []; omega, by simp only []; omega, by simp only []; omega, by simp only []; omega, by simp only []; omega, by simp only []; omega, by simp only []; omega, fun k => (rb k).1, fun k => (rb k).2, fun k => (hb k).1, fun k => (hb k).2⟩

/-- The argument, opened. -/
theorem arg_sk {r : Reach} {b0 : Nat} {v : Value} {d : DataW H} {p : List MemPlace} (hv : Value.okWide Tryz.prog w r b0 81 v) (h : DataW.Trod enc Tryz.prog w base spare held 81 v d p) :
    ∃ (A : Array Value) (s : Sk), v = .agg A ∧ IsSk A s ∧ s.Ok := by
  obtain ⟨cs, rfl, _⟩ := WideShapes.okWide_struct Tryz.underlying81 hv
  obtain ⟨fuel, hf⟩ := h
  obtain ⟨s, hs, ok⟩ := open_sk hf
  exact ⟨cs, s, rfl, by simpa [Value.cells] using hs, ok⟩
end
end Go.Proofs.YtpglbakcjihohaaGreat

/-! A list of numbers and a script that come in as arguments, opened: their cells in memory, and that all of them fit. -/
namespace Go.Proofs.YtpglbakcjihohaaGreat
open Go.RowKit
set_option maxRecDepth 100000

theorem bulk_pos {H : Type} (d : DataW H) : 1 ≤ Rows.uptoBulk d := by
  cases d with
  | lit l => cases l <;> simp [Rows.uptoBulk]
  | _ => simp [Rows.uptoBulk]
theorem bulk_mem {H : Type} {d : DataW H} {l : List (DataW H)} (h : d ∈ l) : Rows.uptoBulk d ≤ Rows.uptoBulkAll l := by
  induction l with
  | nil => cases h
  | cons y r ih =>
    simp only [Rows.uptoBulkAll]
    rcases List.mem_cons.1 h with e | e
    · subst e; omega
    · have := ih e; omega
theorem bulk_len {H : Type} (l : List (DataW H)) : l.length ≤ Rows.uptoBulkAll l := by
  induction l with
  | nil => simp
  | cons y r ih => have := bulk_pos y; simp only [Rows.uptoBulkAll, List.length_cons]; omega
section
variable {H : Type} {enc : TypeId × Value → H} {w : World}
/-- A slice whose elements are all of one shape. -/
theorem open_rows {α : Type} {C : Cl α} {t e : TypeId} {fuel : Nat} {cs : List Value} {x : DataW H × List MemPlace} (R : DataW H → α → Prop) (ht : Tryz.prog.underlying t = some (.slice e)) (hc : Tryz.prog.cellsOf e = C.size)
    (each : ∀ n cs' y, DataW.trod enc Tryz.prog w 0 (fun _ => true) true n e cs' = some y → ∃ a : α, cs' = C.cells a ∧ R y.1 a) (h : DataW.trod enc Tryz.prog w 0 (fun _ => true) true fuel t cs = some x) :
    ∃ (p : Option Addr) (n c : Nat) (l : List α), cs = [.slice p n c] ∧ l.length = n ∧ RowsAt C w p l ∧ n ≤ Rows.uptoBulk x.1 ∧ ∀ a ∈ l, ∃ d, R d a ∧ Rows.uptoBulk d ≤ Rows.uptoBulk x.1 := by
  rcases Deep.open_slice ht h with ⟨rfl, rfl⟩ | ⟨a, len, cap, m, n, D, Pl, rfl, hb, hl, hm, hmm, rfl, hx⟩
  · exact ⟨none, 0, 0, [], rfl, rfl, .inl rfl, by simp, fun a ha => by simp at ha⟩
  · simp only [if_true] at hmm
    subst hmm
    rw [hc] at hx
    have each' : ∀ i, i < len → ∃ b : α, w.cells? 0 (a.add (i * C.size)) (C.size) = some (C.cells b) ∧ R (D i) b := fun i hi => by
      obtain ⟨cs', h1, h2⟩ := hx i (by omega)
      obtain ⟨b, rfl, hR⟩ := each _ _ _ h2
      exact ⟨b, h1, hR⟩
    let f : Fin len → α := fun i => Classical.choose (each' i.1 i.2)
    have hf : ∀ (i : Nat) (hi : i < len), w.cells? 0 (a.add (i * C.size)) (C.size) = some (C.cells (f ⟨i, hi⟩)) ∧ R (D i) (f ⟨i, hi⟩) := fun i hi => Classical.choose_spec (each' i hi)
    have hle : Rows.uptoBulkAll ((List.range len).map D) ≤ Rows.uptoBulk (DataW.slice ((List.range len).map D) ((List.range (m - len)).map fun j => D (len + j))) := by simp only [Rows.uptoBulk]; omega
    refine ⟨some a, len, m, List.ofFn f, rfl, by simp, ?_, ?_, fun b hb => ?_⟩
    · by_cases h0 : len = 0
      · left; subst h0; rfl
      · right
        obtain ⟨b, off, spot⟩ := a
        have h1 := (World.cells?_some (hf 0 (by omega)).1).2.2 0 (Cl.pos (C := C))
        obtain ⟨v0, hv0⟩ : ∃ v0, (C.cells (f ⟨0, by omega⟩) : List Value)[0]? = some v0 := ⟨_, List.getElem?_eq_getElem (by rw [Cl.len (f ⟨0, by omega⟩)]; exact Cl.pos (C := C))⟩
        rw [hv0] at h1
        have hspot : spot = none := by simpa [Addr.add] using World.cell?_spot h1
        subst hspot
        have hbl : b < w.heap.size := by have := block_lt_of_cell h1; simpa [Addr.add] using this
        refine ⟨b, off, rfl, hbl, fun i y hy j v hv => ?_⟩
        obtain ⟨hi, e⟩ := List.getElem?_eq_some_iff.1 hy
        have hi' : i < len := by simpa using hi
        have ey : f ⟨i, hi'⟩ = y := by rw [← e]; simp
        have hj : j < C.size := by rw [← Cl.len y]; exact (List.getElem?_eq_some_iff.1 hv).1
        have h2 := (World.cells?_some (hf i hi').1).2.2 j hj
        rw [ey, hv, Addr.add_mid, Addr.add_mid] at h2
        exact h2
    · have h1 := bulk_len ((List.range len).map D)
      rw [List.length_map, List.length_range] at h1
      exact Nat.le_trans h1 hle
    · obtain ⟨i, hi⟩ := List.getElem?_of_mem hb
      obtain ⟨hi1, e⟩ := List.getElem?_eq_some_iff.1 hi
      have hi' : i < len := by simpa using hi1
      refine ⟨D i, ?_, Nat.le_trans (bulk_mem (List.mem_map.2 ⟨i, by simpa using hi', rfl⟩)) hle⟩
      have ey : f ⟨i, hi'⟩ = b := by rw [← e]; simp
      rw [← ey]; exact (hf i hi').2
theorem cellsInt : Tryz.prog.cellsOf 3 = 1 := by kernel_rfl
theorem cellsItem : Tryz.prog.cellsOf 114 = 32 := by kernel_rfl
theorem cellsStep : Tryz.prog.cellsOf 33 = 8 := by kernel_rfl
theorem cellsPk : Tryz.prog.cellsOf 31 = 2 := by kernel_rfl
theorem cellsStr' : Tryz.prog.cellsOf 9 = 1 := by kernel_rfl
theorem cellsBool : Tryz.prog.cellsOf 4 = 1 := by kernel_rfl
theorem cellsItems : Tryz.prog.cellsOf 29 = 1 := by kernel_rfl
theorem cell_bool {fuel : Nat} {cs : List Value} {i : Nat} {x : DataW H × List MemPlace} (h : DataW.trod enc Tryz.prog w 0 (fun _ => true) true fuel 4 ((cs.drop i).take 1) = some x) : ∃ b, cs[i]? = some (.bool b) := by
  obtain ⟨n, e, _⟩ := DataW.trod_bool Tryz.underlying4 h
  exact ⟨n, one_of_drop e⟩
theorem cell_str {fuel : Nat} {cs : List Value} {i : Nat} {x : DataW H × List MemPlace} (h : DataW.trod enc Tryz.prog w 0 (fun _ => true) true fuel 9 ((cs.drop i).take 1) = some x) : ∃ s : ByteArray, cs[i]? = some (.string s) ∧ s.size ≤ maxLen := by
  obtain ⟨n, e, _, hn⟩ := DataW.trod_string Tryz.underlying9 h
  exact ⟨n, one_of_drop e, hn⟩
theorem list4 {cs : List Value} {a b c d : Value} (h0 : cs[0]? = some a) (h1 : cs[1]? = some b) (h2 : cs[2]? = some c) (h3 : cs[3]? = some d) : cs = a :: b :: c :: d :: cs.drop 4 := by
  match cs, h0, h1, h2, h3 with
  | [], h0, _, _, _ => simp at h0
  | [_], _, h1, _, _ => simp at h1
  | [_, _], _, _, h2, _ => simp at h2
  | [_, _, _], _, _, _, h3 => simp at h3
  | w :: x :: y :: z :: r, h0, h1, h2, h3 => simp at h0 h1 h2 h3 ⊢; exact ⟨h0, h1, h2, h3⟩
theorem open_item {fuel : Nat} {cs : List Value} {y : DataW H × List MemPlace} (h : DataW.trod enc Tryz.prog w 0 (fun _ => true) true fuel 114 cs = some y) : ∃ a : It, cs = clIt.cells a ∧ a.Ok := by
  obtain ⟨xs, n, _, _, hl, hlen, hf⟩ := DataW.trod_struct Tryz.underlying114 h
  have hlen' : xs.length = 5 := hlen
  rw [cellsItem] at hl
  have g0 : DataW.trod enc Tryz.prog w 0 (fun _ => true) true n 3 ((cs.drop 0).take (Tryz.prog.cellsOf 3)) = xs[0]? := hf 0 _ rfl
  have g1 : DataW.trod enc Tryz.prog w 0 (fun _ => true) true n 3 ((cs.drop 1).take (Tryz.prog.cellsOf 3)) = xs[1]? := hf 1 _ rfl
  have g2 : DataW.trod enc Tryz.prog w 0 (fun _ => true) true n 3 ((cs.drop 2).take (Tryz.prog.cellsOf 3)) = xs[2]? := hf 2 _ rfl
  have g3 : DataW.trod enc Tryz.prog w 0 (fun _ => true) true n 4 ((cs.drop 3).take (Tryz.prog.cellsOf 4)) = xs[3]? := hf 3 _ rfl
  have g4 : DataW.trod enc Tryz.prog w 0 (fun _ => true) true n 81 ((cs.drop 4).take (Tryz.prog.cellsOf 81)) = xs[4]? := hf 4 _ rfl
  rw [cellsInt] at g0 g1 g2
  rw [cellsBool] at g3
  rw [cellsSk] at g4
  rw [List.getElem?_eq_getElem (by omega)] at g0 g1 g2 g3 g4
  obtain ⟨a0, e0, w0⟩ := cell_int (k := .i64) Tryz.underlying3 g0
  obtain ⟨a1, e1, w1⟩ := cell_int (k := .i64) Tryz.underlying3 g1
  obtain ⟨a2, e2, w2⟩ := cell_int (k := .i64) Tryz.underlying3 g2
  obtain ⟨a3, e3⟩ := cell_bool g3
  obtain ⟨s, hs, ok⟩ := open_sk g4
  rw [List.take_of_length_le (by simp; omega)] at hs
  have hs' : cs.drop 4 = s.cells.toList := by have := congrArg Array.toList (show (cs.drop 4).toArray = s.cells from hs); simpa using this
  refine ⟨⟨a0, a1, a2, a3, s⟩, ?_, ⟨bounds_i64 w0, bounds_i64 w1, bounds_i64 w2, ok⟩⟩
  rw [list4 e0 e1 e2 e3, hs']; rfl
theorem open_num {fuel : Nat} {cs : List Value} {y : DataW H × List MemPlace} (h : DataW.trod enc Tryz.prog w 0 (fun _ => true) true fuel 3 cs = some y) : ∃ a : Int, cs = clInt.cells a ∧ fitsI a := by
  obtain ⟨n, e, _, hw⟩ := DataW.trod_int Tryz.underlying3 h
  exact ⟨n, e, bounds_i64 hw⟩
/-- What is known of a step that came in. -/
def StpR (w : World) (d : DataW H) (x : Stp) : Prop :=
  fitsI x.kind ∧ fitsI x.a ∧ fitsI x.b ∧ fitsI x.c ∧ x.key.size ≤ maxLen ∧ (-2147483648 ≤ x.v ∧ x.v ≤ 2147483647) ∧ fitsI x.fr ∧ x.s.n ≤ Rows.uptoBulk d ∧ ∃ l : List It, l.length = x.s.n ∧ RowsAt clIt w x.s.p l ∧ AllOkI l
theorem open_step {fuel : Nat} {cs : List Value} {y : DataW H × List MemPlace} (h : DataW.trod enc Tryz.prog w 0 (fun _ => true) true fuel 33 cs = some y) : ∃ a : Stp, cs = clStp.cells a ∧ StpR w y.1 a := by
  obtain ⟨xs, n, _, hy, hl, hlen, hf⟩ := DataW.trod_struct Tryz.underlying33 h
  have hlen' : xs.length = 7 := hlen
  rw [cellsStep] at hl
  have g0 : DataW.trod enc Tryz.prog w 0 (fun _ => true) true n 3 ((cs.drop 0).take (Tryz.prog.cellsOf 3)) = xs[0]? := hf 0 _ rfl
  have g1 : DataW.trod enc Tryz.prog w 0 (fun _ => true) true n 3 ((cs.drop 1).take (Tryz.prog.cellsOf 3)) = xs[1]? := hf 1 _ rfl
  have g2 : DataW.trod enc Tryz.prog w 0 (fun _ => true) true n 3 ((cs.drop 2).take (Tryz.prog.cellsOf 3)) = xs[2]? := hf 2 _ rfl
  have g3 : DataW.trod enc Tryz.prog w 0 (fun _ => true) true n 3 ((cs.drop 3).take (Tryz.prog.cellsOf 3)) = xs[3]? := hf 3 _ rfl
  have g4 : DataW.trod enc Tryz.prog w 0 (fun _ => true) true n 9 ((cs.drop 4).take (Tryz.prog.cellsOf 9)) = xs[4]? := hf 4 _ rfl
  have g5 : DataW.trod enc Tryz.prog w 0 (fun _ => true) true n 21 ((cs.drop 5).take (Tryz.prog.cellsOf 21)) = xs[5]? := hf 5 _ rfl
  have g6 : DataW.trod enc Tryz.prog w 0 (fun _ => true) true n 31 ((cs.drop 6).take (Tryz.prog.cellsOf 31)) = xs[6]? := hf 6 _ rfl
  rw [cellsInt] at g0 g1 g2 g3
  rw [cellsStr'] at g4
  rw [cellsI32] at g5
  rw [cellsPk] at g6
  rw [List.getElem?_eq_getElem (by omega)] at g0 g1 g2 g3 g4 g5 g6
  obtain ⟨a0, e0, w0⟩ := cell_int (k := .i64) Tryz.underlying3 g0
  obtain ⟨a1, e1, w1⟩ := cell_int (k := .i64) Tryz.underlying3 g1
  obtain ⟨a2, e2, w2⟩ := cell_int (k := .i64) Tryz.underlying3 g2
  obtain ⟨a3, e3, w3⟩ := cell_int (k := .i64) Tryz.underlying3 g3
  obtain ⟨a4, e4, w4⟩ := cell_str g4
  obtain ⟨a5, e5, w5⟩ := cell_int (k := .i32) Tryz.underlying21 g5
  obtain ⟨zs, n2, _, hz, hl2, hlen2, hf2⟩ := DataW.trod_struct Tryz.underlying31 g6
  have hlen2' : zs.length = 2 := hlen2
  have k0 : DataW.trod enc Tryz.prog w 0 (fun _ => true) true n2 3 ((((cs.drop 6).take 2).drop 0).take (Tryz.prog.cellsOf 3)) = zs[0]? := hf2 0 _ rfl
  have k1 : DataW.trod enc Tryz.prog w 0 (fun _ => true) true n2 29 ((((cs.drop 6).take 2).drop 1).take (Tryz.prog.cellsOf 29)) = zs[1]? := hf2 1 _ rfl
  rw [cellsInt] at k0
  rw [cellsItems] at k1
  rw [List.getElem?_eq_getElem (by omega)] at k0 k1
  obtain ⟨a6, e6, w6⟩ := cell_int (k := .i64) Tryz.underlying3 k0
  obtain ⟨p, pn, pc, l, e7, hln, hrw, hbk, hel⟩ := open_rows (C := clIt) (fun _ a => a.Ok) Tryz.underlying29 cellsItem (fun _ _ _ h => open_item h) k1
  have e7' : ((cs.drop 6).take 2)[1]? = some (.slice p pn pc) := one_of_drop e7
  have e6' : cs[6]? = some (.int .i64 a6) := by simpa [List.getElem?_take, List.getElem?_drop] using e6
  have e7'' : cs[7]? = some (.slice p pn pc) := by simpa [List.getElem?_take, List.getElem?_drop] using e7'
  have hd4 : cs.drop 4 = [.string a4, .int .i32 a5, .int .i64 a6, .slice p pn pc] := by
    have h4 : (cs.drop 4)[0]? = some (.string a4) := by simpa [List.getElem?_drop] using e4
    have h5 : (cs.drop 4)[1]? = some (.int .i32 a5) := by simpa [List.getElem?_drop] using e5
    have h6 : (cs.drop 4)[2]? = some (.int .i64 a6) := by simpa [List.getElem?_drop] using e6'
    have h7 : (cs.drop 4)[3]? = some (.slice p pn pc) := by simpa [List.getElem?_drop] using e7''
    rw [list4 h4 h5 h6 h7, List.drop_drop, List.drop_of_length_le (by omega)]
  have b1 : pn ≤ Rows.uptoBulk xs[6].1 := by
    rw [hz]
    show pn ≤ Rows.uptoBulk (DataW.agg (zs.map (·.1)))
    have := bulk_mem (d := zs[1].1) (l := zs.map (·.1)) (List.mem_map.2 ⟨zs[1], List.getElem_mem _, rfl⟩)
    simp only [Rows.uptoBulk]; omega
  have b2 : pn ≤ Rows.uptoBulk y.1 := by
    rw [hy]
    show pn ≤ Rows.uptoBulk (DataW.agg (xs.map (·.1)))
    have := bulk_mem (d := xs[6].1) (l := xs.map (·.1)) (List.mem_map.2 ⟨xs[6], List.getElem_mem _, rfl⟩)
    simp only [Rows.uptoBulk]; omega
  refine ⟨⟨a0, a1, a2, a3, a4, a5, a6, ⟨p, pn, pc⟩⟩, ?_, ⟨bounds_i64 w0, bounds_i64 w1, bounds_i64 w2, bounds_i64 w3, w4, bounds_i32 w5, bounds_i64 w6, b2, l, hln, hrw, allOkI_of fun x hx => (hel x hx).elim fun _ h => h.1⟩⟩
  rw [list4 e0 e1 e2 e3, hd4]
/-- The tree, opened. -/
theorem arg_tree {r : Reach} {b0 : Nat} {v : Value} {d : DataW H} {p : List MemPlace} (hv : Value.okWide Tryz.prog w r b0 22 v) (h : DataW.Trod enc Tryz.prog w 0 (fun _ => true) true 22 v d p) :
    ∃ (a : Option Addr) (n c : Nat) (l : List Int), v = .slice a n c ∧ l.length = n ∧ RowsAt clInt w a l ∧ n ≤ Rows.uptoBulk d := by
  obtain ⟨a, n, cap, rfl⟩ := WideShapes.okWide_slice Tryz.underlying22 hv
  obtain ⟨fuel, hf⟩ := h
  obtain ⟨a', n', c', l, e, h1, h2, h3, _⟩ := open_rows (C := clInt) (fun _ a => fitsI a) Tryz.underlying22 cellsInt (fun _ _ _ h => open_num h) hf
  simp [Value.cells] at e
  obtain ⟨rfl, rfl, rfl⟩ := e
  exact ⟨_, _, _, l, rfl, h1, h2, h3⟩
/-- The script, opened. -/
theorem arg_script {r : Reach} {b0 : Nat} {v : Value} {d : DataW H} {p : List MemPlace} (hv : Value.okWide Tryz.prog w r b0 23 v) (h : DataW.Trod enc Tryz.prog w 0 (fun _ => true) true 23 v d p) (hb : Rows.uptoBulk d ≤ 1048576) :
    ∃ (a : Option Addr) (n c : Nat) (l : List Stp), v = .slice a n c ∧ l.length = n ∧ RowsAt clStp w a l ∧ n ≤ 1048576 ∧ ∀ x ∈ l, StpOk w (own0 w) x := by
  obtain ⟨a, n, cap, rfl⟩ := WideShapes.okWide_slice Tryz.underlying23 hv
  obtain ⟨fuel, hf⟩ := h
  obtain ⟨a', n', c', l, e, h1, h2, h3, h4⟩ := open_rows (C := clStp) (StpR w) Tryz.underlying23 cellsStep (fun _ _ _ h => open_step h) hf
  simp [Value.cells] at e
  obtain ⟨rfl, rfl, rfl⟩ := e
  refine ⟨_, _, _, l, rfl, h1, h2, Nat.le_trans h3 hb, fun x hx => ?_⟩
  obtain ⟨d', ⟨k1, k2, k3, k4, k5, k6, k7, k8, ls, m1, m2, m3⟩, hd'⟩ := h4 x hx
  have hd2 : Rows.uptoBulk d' ≤ Rows.uptoBulk d := hd'
  refine ⟨k1, k2, k3, k4, k5, k6.1, k6.2, k7, by omega, ls, m1, m2, m3, ?_⟩
  by_cases hl : ls = []
  · exact .inl hl
  · exact .inr fun b off e => own0_arg w b (m2.lt hl b off e)
end
end Go.Proofs.YtpglbakcjihohaaGreat

/-! The program's ledger: where an item stands, which it is, whether it is Final; which items of some windows there are. -/
namespace Go.Proofs.YtpglbakcjihohaaGreat
open Go.RowKit
set_option maxRecDepth 100000

def ahk (x : It) (lf wn : Int) : Bool := decide (x.leaf < lf ∨ x.leaf = lf ∧ x.win < wn)
def plc (lf wn : Int) : List It → Nat
  | [] => 0
  | y :: l => if ahk y lf wn = true then plc lf wn l + 1 else 0
def atk (lf wn : Int) (l : List It) (i : Nat) : Bool := ((l[i]?).map fun y => decide (y.leaf = lf ∧ y.win = wn)).getD false
theorem plc_le (lf wn : Int) (l : List It) : plc lf wn l ≤ l.length := by
  induction l with
  | nil => simp [plc]
  | cons y l ih => simp only [plc]; split <;> simp; exact ih
theorem plc_drop_yes (lf wn : Int) (l : List It) (k : Nat) (y : It) (hy : l[k]? = some y) (h : ahk y lf wn = true) : plc lf wn (l.drop k) = plc lf wn (l.drop (k + 1)) + 1 := by
  obtain ⟨hk, e⟩ := List.getElem?_eq_some_iff.1 hy
  rw [List.drop_eq_getElem_cons hk, e]; simp [plc, h]
theorem plc_drop_no (lf wn : Int) (l : List It) (k : Nat) (y : It) (hy : l[k]? = some y) (h : ahk y lf wn = false) : plc lf wn (l.drop k) = 0 := by
  obtain ⟨hk, e⟩ := List.getElem?_eq_some_iff.1 hy
  rw [List.drop_eq_getElem_cons hk, e]; simp [plc, h]
theorem itm_plc (lf wn : Int) (l : List It) : itm lf wn l = if atk lf wn l (plc lf wn l) = true then (l[plc lf wn l]?).getD It.zero else newIt lf wn := by
  induction l with
  | nil => simp [itm, plc, atk]
  | cons y l ih =>
    by_cases h : ahk y lf wn = true
    · have h' : y.leaf < lf ∨ y.leaf = lf ∧ y.win < wn := by simpa [ahk] using h
      have e : plc lf wn (y :: l) = plc lf wn l + 1 := by simp [plc, h]
      rw [e]
      simp only [itm, if_pos h', atk, List.getElem?_cons_succ]
      exact ih
    · have h' : ¬ (y.leaf < lf ∨ y.leaf = lf ∧ y.win < wn) := by simpa [ahk] using h
      have e : plc lf wn (y :: l) = 0 := by simp [plc, h]
      rw [e]
      simp only [itm, if_neg h', atk, List.getElem?_cons_zero, Option.map_some, Option.getD_some, decide_eq_true_eq]
theorem pin_plc (x : It) (l : List It) : pin x l = if atk x.leaf x.win l (plc x.leaf x.win l) = true then l.set (plc x.leaf x.win l) x else l.take (plc x.leaf x.win l) ++ x :: l.drop (plc x.leaf x.win l) := by
  induction l with
  | nil => simp [pin, plc, atk]
  | cons y l ih =>
    by_cases h : ahd y x = true
    · have h1 : ahk y x.leaf x.win = true := by unfold ahd at h; unfold ahk; exact h
      have e : plc x.leaf x.win (y :: l) = plc x.leaf x.win l + 1 := by simp [plc, h1]
      rw [e]
      simp only [pin, if_pos h, atk, List.getElem?_cons_succ, List.set_cons_succ, List.take_succ_cons, List.drop_succ_cons, List.cons_append]
      rw [ih]
      unfold atk
      split <;> rfl
    · have h1 : ¬ ahk y x.leaf x.win = true := by unfold ahd at h; unfold ahk; exact h
      have e : plc x.leaf x.win (y :: l) = 0 := by simp [plc, h1]
      rw [e]
      simp only [pin, if_neg h, atk, List.getElem?_cons_zero, Option.map_some, Option.getD_some, decide_eq_true_eq, List.set_cons_zero, List.take_zero, List.drop_zero, List.nil_append]

theorem built_it5 (lf wn : Int) (s : Sk) : Tryz.prog.built 114 [(0, .int .i64 lf), (1, .int .i64 wn), (4, .agg s.cells)] = some (It.mk lf wn 0 false s).cells.toArray := by kernel_rfl
theorem built_it3' (lf wn : Int) {E : Array Value} {s : Sk} (hE : IsSk E s) : Tryz.prog.built 114 [(0, .int .i64 lf), (1, .int .i64 wn), (4, .agg E)] = some (It.mk lf wn 0 false s).cells.toArray := by rw [show E = s.cells from hE]; exact built_it5 lf wn s
section
variable {ops : Array Oper} {rest : List Oper} {o : Oper} {a : Act} {w : World} {Q : Exit → Act → World → Prop}
/-- An item out of the midst of a block, where a guard says yes. -/
theorem load_it_mid_g (hw : Region.wanted o (yielded ops a.tmps) = true) (x : Operand) (ho : o.op = .load 114 x) (g off : Nat) (hx : a.eval x = .pointer (some ⟨g, off, none⟩)) (s : It)
    (hg : w.rangeAt g off s.cells) (h : ∀ A, IsIt A s → wpList Tryz.prog ops Q rest (a.put o.dst (.agg A)) w) : wpList Tryz.prog ops Q (o :: rest) a w :=
  BigFrame.wpList_want hw fun K hK => by
    have hl := run_loadVar_mid (P := Tryz.prog) w g off 114 s.cells _ hg Tryz.underlying114 rfl (info_it' s)
    unfold Oper.wp execOp
    simp only [ho, hx, Instr.loadAt, Instr.sureAddr, Sem.run_bind, Sem.run_pure, Result.andThen_ok, hl]
    exact hK _ _ (h _ (isIt_of _))
end
structure LgR (w : World) (bs o : Nat) (p : Option Addr) (m c : Nat) (mk : Int) (l : List It) : Prop where
  c0 : w.cell? ⟨bs, o, none⟩ = some (.slice p m c)
  c1 : w.cell? ⟨bs, o + 1, none⟩ = some (.int .i64 mk)
  rows : RowsAt clIt w p l
  len : l.length = m
  small : m ≤ 1000000
theorem LgR.below {w w' : World} {bs o : Nat} {p : Option Addr} {m c : Nat} {mk : Int} {l : List It} (h : LgR w bs o p m c mk l) (hb : Below w.heap.size w w') : LgR w' bs o p m c mk l :=
  ⟨cell_keep hb h.c0, cell_keep hb h.c1, h.rows.below hb, h.len, h.small⟩
set_option maxHeartbeats 1000000 in
theorem isAhead_any (x : It) (A : Array Value) (hA : IsIt A x) (lf wn : Int) (w : World) :
    Calls Tryz.prog 96 #[.agg A, .int .i64 lf, .int .i64 wn] w fun e w' => e = .returned (.bool (ahk x lf wn)) ∧ Below w.heap.size w w' := by
  have a0 := hA.get0
  have a1 := hA.get1
  obtain ⟨xl, xw, xv, xf, xs⟩ := x
  clear hA
  by_cases h1 : xl < lf
  · have HE : Hid (ahk ⟨xl, xw, xv, xf, xs⟩ lf wn = true) := by unfold Hid ahk; exact decide_eq_true (.inl h1)
    go_enter Tryz.func96, Tryz.ntmps96
    go_wp2
    go_ret
    exact ⟨by rw [HE.out]; rfl, below_alloc _ _⟩
  · by_cases h2 : xl = lf
    · by_cases h3 : xw < wn
      · have HE : Hid (ahk ⟨xl, xw, xv, xf, xs⟩ lf wn = true) := by unfold Hid ahk; exact decide_eq_true (.inr ⟨h2, h3⟩)
        subst h2
        go_enter Tryz.func96, Tryz.ntmps96
        go_wp2
        go_ret
        exact ⟨by rw [HE.out]; rfl, below_alloc _ _⟩
      · have HE : Hid (ahk ⟨xl, xw, xv, xf, xs⟩ lf wn = false) := by unfold Hid ahk; exact decide_eq_false (by rintro (h | h); exact h1 h; exact h3 h.2)
        subst h2
        go_enter Tryz.func96, Tryz.ntmps96
        go_wp2
        go_ret
        exact ⟨by rw [HE.out]; rfl, below_alloc _ _⟩
    · have HE : Hid (ahk ⟨xl, xw, xv, xf, xs⟩ lf wn = false) := by unfold Hid ahk; exact decide_eq_false (by rintro (h | h); exact h1 h; exact h2 h.1)
      have hb : (xl == lf) = false := by simp [h2]
      go_enter Tryz.func96, Tryz.ntmps96
      go_wp2
      go_ret
      exact ⟨by rw [HE.out]; rfl, below_alloc _ _⟩
set_option maxHeartbeats 1000000 in
theorem place_any (w : World) (bs o : Nat) (p : Option Addr) (m c : Nat) (mk : Int) (l : List It) (h : LgR w bs o p m c mk l) (lf wn : Int) :
    Calls Tryz.prog 91 #[.pointer (some ⟨bs, o, none⟩), .int .i64 lf, .int .i64 wn] w fun e w' => e = .returned (.int .i64 (plc lf wn l)) ∧ Below w.heap.size w w' := by
  have H : Hid (LgR w bs o p m c mk l) := h
  have hm := h.small
  have hlen := h.len
  clear h
  go_enter Tryz.func91, Tryz.ntmps91
  go_wp2
  go_loopw [7] (fun i wr => ∃ k : Nat, k ≤ m ∧ i = .int .i64 k ∧ plc lf wn l = k + plc lf wn (l.drop k) ∧ Below w.heap.size w wr) (fun i _ => m - (intOf i).toNat)
  case atStart => exact ⟨0, by omega, rfl, by simp, Below.refl _ _⟩
  case round =>
    obtain ⟨k, hk, rfl, hp, hb⟩ := hrel
    have HB : Hid (Below w.heap.size w wr) := hb
    have HP : Hid (plc lf wn l = k + plc lf wn (l.drop k)) := hp
    have d0 := (H.out.below hb).c0
    clear hb hp
    by_cases hlk : k < m
    · obtain ⟨y, hy⟩ : ∃ y, l[k]? = some y := ⟨_, List.getElem?_eq_getElem (by omega)⟩
      obtain ⟨b0, off, rfl, hlt, hcx⟩ := (H.out.below HB.out).rows.pos k (by omega)
      have rg : Hid (wr.rangeAt b0 (off + k * 32) y.cells) := hcx k y hy
      have HY : Hid (l[k]? = some y) := hy
      clear hcx hy
      obtain ⟨av, hav⟩ : ∃ av, ahk y lf wn = av := ⟨_, rfl⟩
      cases av with
      | true =>
        go_wp2_with (first | (refine load_it_mid_g rfl _ rfl _ _ rfl y (by exact rg.out) ?_; intro Y hY) | (go_at_call 96; refine (isAhead_any y Y hY _ _ _).mono ?_; rintro e w1 ⟨rfl, hb1⟩; rw [hav]))
        go_roundw
        case rel => exact ⟨k + 1, by omega, by go_num, by rw [HP.out, plc_drop_yes lf wn l k y HY.out hav]; omega, bnext HB.out hb1⟩
        case measure => simp [intOf]; omega
      | false =>
        have HE : Hid (plc lf wn l = k) := by unfold Hid; rw [HP.out, plc_drop_no lf wn l k y HY.out hav]; rfl
        go_wp2_with (first | (refine load_it_mid_g rfl _ rfl _ _ rfl y (by exact rg.out) ?_; intro Y hY) | (go_at_call 96; refine (isAhead_any y Y hY _ _ _).mono ?_; rintro e w1 ⟨rfl, hb1⟩; rw [hav]))
        go_ret
        exact ⟨by rw [HE.out]; rfl, bnext HB.out hb1⟩
    · obtain rfl : k = m := by omega
      have HE : Hid (plc lf wn l = k) := by unfold Hid; rw [HP.out, List.drop_of_length_le (by omega)]; rfl
      go_wp2
      go_ret
      exact ⟨by rw [HE.out]; rfl, HB.out⟩
set_option maxHeartbeats 1000000 in
theorem isAt_any (w : World) (bs o : Nat) (p : Option Addr) (m c : Nat) (mk : Int) (l : List It) (h : LgR w bs o p m c mk l) (i : Nat) (lf wn : Int) (hi : i ≤ m) :
    Calls Tryz.prog 92 #[.pointer (some ⟨bs, o, none⟩), .int .i64 i, .int .i64 lf, .int .i64 wn] w fun e w' => e = .returned (.bool (atk lf wn l i)) ∧ w' = w := by
  have hm := h.small
  have hlen := h.len
  have d0 := h.c0
  by_cases hlk : i < m
  · obtain ⟨y, hy⟩ : ∃ y, l[i]? = some y := ⟨_, List.getElem?_eq_getElem (by omega)⟩
    obtain ⟨b0, off, rfl, hlt, hcx⟩ := h.rows.pos i (by omega)
    have y0 : w.cell? ⟨b0, off + i * 32, none⟩ = some (.int .i64 y.leaf) := hcx i y hy 0 _ rfl
    have y1 : w.cell? ⟨b0, off + i * 32 + 1, none⟩ = some (.int .i64 y.win) := hcx i y hy 1 _ rfl
    obtain ⟨yl, yw, yv, yf, ys⟩ := y
    replace y0 : w.cell? ⟨b0, off + i * 32, none⟩ = some (.int .i64 yl) := y0
    replace y1 : w.cell? ⟨b0, off + i * 32 + 1, none⟩ = some (.int .i64 yw) := y1
    have HA : Hid (atk lf wn l i = decide (yl = lf ∧ yw = wn)) := by unfold Hid atk; rw [hy]; rfl
    clear h hcx hy
    by_cases e1 : yl = lf
    · by_cases e2 : yw = wn
      · have HE : Hid (atk lf wn l i = true) := by unfold Hid; rw [HA.out]; simp [e1, e2]
        subst e1 e2
        clear HA
        go_enter Tryz.func92, Tryz.ntmps92
        go_wp2
        go_ret
        exact ⟨by rw [HE.out]; rfl, rfl⟩
      · have HE : Hid (atk lf wn l i = false) := by unfold Hid; rw [HA.out]; simp [e2]
        have hb : (yw == wn) = false := by simp [e2]
        subst e1
        clear HA
        go_enter Tryz.func92, Tryz.ntmps92
        go_wp2
        go_ret
        exact ⟨by rw [HE.out]; rfl, rfl⟩
    · have HE : Hid (atk lf wn l i = false) := by unfold Hid; rw [HA.out]; simp [e1]
      have hb : (yl == lf) = false := by simp [e1]
      clear HA
      go_enter Tryz.func92, Tryz.ntmps92
      go_wp2
      go_ret
      exact ⟨by rw [HE.out]; rfl, rfl⟩
  · obtain rfl : i = m := by omega
    have HE : Hid (atk lf wn l i = false) := by unfold Hid atk; rw [List.getElem?_eq_none (by omega)]; rfl
    clear h
    go_enter Tryz.func92, Tryz.ntmps92
    go_wp2
    go_ret
    exact ⟨by rw [HE.out]; rfl, rfl⟩
set_option maxHeartbeats 2000000 in
theorem item_any (w : World) (bs o : Nat) (p : Option Addr) (m c : Nat) (mk : Int) (l : List It) (h : LgR w bs o p m c mk l) (lf wn : Int) :
    Calls Tryz.prog 78 #[.pointer (some ⟨bs, o, none⟩), .int .i64 lf, .int .i64 wn] w fun e w' => ∃ X, e = .returned (.agg X) ∧ IsIt X (itm lf wn l) ∧ Below w.heap.size w w' := by
  have H : Hid (LgR w bs o p m c mk l) := h
  have hm := h.small
  have hlen := h.len
  have hpl := plc_le lf wn l
  have HI := itm_plc lf wn l
  clear h
  obtain ⟨q, hq⟩ : ∃ q, q = plc lf wn l := ⟨_, rfl⟩
  rw [← hq] at HI hpl
  obtain ⟨av, hav⟩ : ∃ av, atk lf wn l q = av := ⟨_, rfl⟩
  rw [hav] at HI
  have HQ : Hid (q = plc lf wn l) := hq
  have HV : Hid (atk lf wn l q = av) := hav
  clear hq
  cases av with
  | true =>
    rw [if_pos rfl] at HI
    have hqm : q < m := by
      rcases Nat.lt_or_ge q l.length with h | h
      · omega
      · unfold atk at hav; rw [List.getElem?_eq_none h] at hav; simp at hav
    obtain ⟨y, hy⟩ : ∃ y, l[q]? = some y := ⟨_, List.getElem?_eq_getElem (by omega)⟩
    rw [hy] at HI
    have HI' : Hid (itm lf wn l = y) := HI
    obtain ⟨b0, off, rfl, hlt, hcx⟩ := H.out.rows.pos q (by omega)
    have rg : Hid (w.rangeAt b0 (off + q * 32) y.cells) := hcx q y hy
    clear HI hcx hy hav
    go_enter Tryz.func78, Tryz.ntmps78
    go_wp2_with (first | (refine alloc_it rfl rfl ?_; intro Z hZ) | (go_at_call 91; refine (place_any _ _ _ _ _ _ _ l (H.out.below (below_alloc _ _)) _ _).mono ?_; rintro e w1 ⟨rfl, hb1⟩; rw [← HQ.out]; have H1 := (H.out.below (below_alloc _ _)).below hb1; have d0 := H1.c0; have hB1 := bnext (below_alloc _ _) hb1; have gZ := keep hb1 (heap_alloc_new w _)) | (go_at_call 92; refine (isAt_any _ _ _ _ _ _ _ l H1 q _ _ (by omega)).mono ?_; rintro e w2 ⟨rfl, rfl⟩; rw [HV.out]) | (refine load_it_mid rfl _ rfl _ _ rfl y (by exact range_below hB1 hlt rg.out) ?_; intro Y hY) | (refine store_it rfl _ _ rfl Y _ rfl rfl hY gZ hZ.size ?_))
    exact bodyPost_ret (results_it rfl _ _ _ Y _ hY rfl (setRow_blk gZ)) rfl ⟨Y, rfl, by rw [HI'.out]; exact hY, below_setRow _ hB1 (Nat.le_refl _)⟩
  | false =>
    rw [if_neg (by simp)] at HI
    have HI' : Hid (itm lf wn l = newIt lf wn) := HI
    clear HI hav
    go_enter Tryz.func78, Tryz.ntmps78
    go_wp2_with (first | (refine alloc_it rfl rfl ?_; intro Z hZ) | (go_at_call 91; refine (place_any _ _ _ _ _ _ _ l (H.out.below (below_alloc _ _)) _ _).mono ?_; rintro e w1 ⟨rfl, hb1⟩; rw [← HQ.out]; have H1 := (H.out.below (below_alloc _ _)).below hb1; have d0 := H1.c0; have hB1 := bnext (below_alloc _ _) hb1; have gZ := keep hb1 (heap_alloc_new w _)) | (go_at_call 92; refine (isAt_any _ _ _ _ _ _ _ l H1 q _ _ (by omega)).mono ?_; rintro e w2 ⟨rfl, rfl⟩; rw [HV.out]))
    refine (empty_any _).mono ?_
    rintro e w3 ⟨E, rfl, hE, hb3⟩
    have hB3 := bnext hB1 hb3
    have gZ3 := keep hb3 gZ
    go_wp2_with (first | (refine build_it rfl _ rfl (newIt lf wn) (by refine Eq.trans ?_ (built_it3' lf wn hE); kernel_rfl) ?_; intro M hM) | (refine store_it rfl _ _ rfl M _ rfl rfl hM gZ3 hZ.size ?_))
    exact bodyPost_ret (results_it rfl _ _ _ M _ hM rfl (setRow_blk gZ3)) rfl ⟨M, rfl, by rw [HI'.out]; exact hM, below_setRow _ hB3 (Nat.le_refl _)⟩
end Go.Proofs.YtpglbakcjihohaaGreat

/-! The program's ledger: an item laid in its place; the watermark; the items of some windows. -/
namespace Go.Proofs.YtpglbakcjihohaaGreat
open Go.RowKit
set_option maxRecDepth 100000

theorem sh_get (l : List It) (i : Nat) (y z : It) (hz : l[i]? = some z) : (l.take (i + 1) ++ y :: l.drop (i + 1))[i]? = some z := by
  have hi := (List.getElem?_eq_some_iff.1 hz).1
  rw [List.getElem?_append_left (by simp; omega), List.getElem?_take, if_pos (by omega), hz]
theorem sh_step (l : List It) (i : Nat) (y z : It) (hz : l[i]? = some z) : (l.take (i + 1) ++ y :: l.drop (i + 1)).set (i + 1) z = l.take i ++ z :: l.drop i := by
  obtain ⟨hi, e⟩ := List.getElem?_eq_some_iff.1 hz
  have hl : (l.take (i + 1)).length = i + 1 := by simp; omega
  rw [List.set_append_right _ _ (by omega), hl, Nat.sub_self, List.set_cons_zero, List.take_add_one, hz, List.drop_eq_getElem_cons hi, e]
  simp
theorem sh_set (l : List It) (i : Nat) (y x : It) (hi : i ≤ l.length) : (l.take i ++ y :: l.drop i).set i x = l.take i ++ x :: l.drop i := by
  have hl : (l.take i).length = i := by simp; omega
  rw [List.set_append_right _ _ (by omega), hl, Nat.sub_self, List.set_cons_zero]
theorem sh_len (l : List It) (i : Nat) (y : It) (hi : i ≤ l.length) : (l.take i ++ y :: l.drop i).length = l.length + 1 := by simp; omega

/-- What 'put' leaves as it was: all but the ledger's slice and its list. -/
structure PF (w wr : World) (bs o : Nat) (cur : Array Value) (ty : TypeId) (v v' : Value) : Prop where
  os : wr.os = w.os
  tape : wr.tape = w.tape
  output : wr.output = w.output
  size : w.heap.size ≤ wr.heap.size
  blk : ∀ k, k < w.heap.size → k ≠ bs → some k ≠ v.ownBlock → wr.heap[k]? = w.heap[k]?
  main : wr.heap[bs]? = some (.cells (cur.setIfInBounds o v') ty)
  at' : v'.ownBlock = v.ownBlock ∨ ∃ g, v'.ownBlock = some g ∧ w.heap.size ≤ g
theorem PF.start {w wr : World} {bs o : Nat} {cur : Array Value} {ty : TypeId} {v : Value} (hb : Below w.heap.size w wr) (hm : w.heap[bs]? = some (.cells cur ty)) (hc : cur[o]? = some v) : PF w wr bs o cur ty v v where
  os := hb.os
  tape := hb.tape
  output := hb.output
  size := hb.size
  blk := fun k hk _ _ => hb.block k hk
  main := by
    rw [hb.block bs (lt_of_blk hm), hm]
    congr 2
    apply Array.ext_getElem?
    intro i
    rw [Array.getElem?_setIfInBounds]
    by_cases e : o = i
    · subst e; rw [if_pos rfl, if_pos (Array.getElem?_eq_some_iff.1 hc).1, hc]
    · rw [if_neg e]
  at' := .inl rfl
theorem PF.grown {w wr w' : World} {bs o : Nat} {cur : Array Value} {ty : TypeId} {v v' : Value} {g : Nat} (h : PF w wr bs o cur ty v v') (hv : v'.ownBlock = some g) (hg : wr.grownBy w' (some g)) (hne : g ≠ bs) (hbs : bs < w.heap.size) : PF w w' bs o cur ty v v' where
  os := hg.os.trans h.os
  tape := hg.tape.trans h.tape
  output := hg.output.trans h.output
  size := Nat.le_trans h.size hg.size
  blk := fun k hk h1 h2 => by
    rw [hg.block k (Nat.lt_of_lt_of_le hk h.size) (fun e => by
      have e := Option.some.inj e
      rcases h.at' with a | ⟨g', a, ha⟩
      · rw [hv] at a; exact h2 (by rw [← a, e])
      · rw [hv] at a; have := Option.some.inj a; omega)]
    exact h.blk k hk h1 h2
  main := by rw [hg.block bs (Nat.lt_of_lt_of_le hbs h.size) (fun e => hne (Option.some.inj e).symm)]; exact h.main
  at' := h.at'
section
variable {ops : Array Oper} {rest : List Oper} {i : Nat} {o : Oper} {a : Act} {w : World} {Q : Exit → Act → World → Prop} {K : Act → World → Prop} {S : World → Prop}
theorem wpOp_store_own (hi : ops[i]? = some o) (hgd : o.guard = none) (x y : Operand) (ho : o.op = .store 114 x y) (g k n cap base off : Nat) (A : Array Value) (s : It) (l : List It)
    (hx : a.eval x = .pointer (some ⟨g, off, none⟩)) (hy : a.eval y = .agg A) (hA : IsIt A s) (hown : Own clIt w base 114 (.slice (some ⟨g, 0, none⟩) n cap) l) (hk : k < l.length) (hoff : off = k * 32)
    (h : ∀ w', Own clIt w' base 114 (.slice (some ⟨g, 0, none⟩) n cap) (l.set k s) → w.grownBy w' (some g) → K (a.put o.dst undef) w') : wpOp Tryz.prog ops Q i K a w := by
  obtain ⟨cur, h1, h2, h3⟩ := hown.set k s hk
  subst hoff
  rw [It.clsize] at h2 h3
  have e : A.toList = clIt.cells s := hA
  refine wpOp_of_wp hi hgd (wp_store_lay 114 x y ho g (k * 32) A hx hy _ cur h1 (info_it hA) (by rw [hA.size]; exact h2) hA.one ?_)
  rw [e]
  exact h _ h3 ⟨rfl, rfl, rfl, by simp, fun j _ hj => setRow_other w g j _ (fun e => hj (by rw [e]))⟩
theorem wpOp_load_it_mid (hi : ops[i]? = some o) (hgd : o.guard = none) (x : Operand) (ho : o.op = .load 114 x) (g off : Nat) (hx : a.eval x = .pointer (some ⟨g, off, none⟩)) (s : It)
    (hg : w.rangeAt g off s.cells) (h : ∀ A, IsIt A s → K (a.put o.dst (.agg A)) w) : wpOp Tryz.prog ops Q i K a w :=
  wpOp_of_wp hi hgd (by
    have hl := run_loadVar_mid (P := Tryz.prog) w g off 114 s.cells _ hg Tryz.underlying114 rfl (info_it' s)
    unfold Oper.wp execOp
    simp only [ho, hx, Instr.loadAt, Instr.sureAddr, Sem.run_bind, Sem.run_pure, Result.andThen_ok, hl]
    exact h _ (isIt_of _))
theorem yieldsIf_load_itB (hw : Region.wanted o (yielded ops a.tmps) = true) (x : Operand) (ho : o.op = .load 114 x) (g : Nat) (hx : a.eval x = .pointer (some ⟨g, 0, none⟩)) (A : Array Value) (s : It) (hA : IsIt A s)
    (hS : ∀ w, S w → w.heap[g]? = some (.cells A 114)) : YieldsIf Tryz.prog ops S o (.agg A) a :=
  .inl ⟨hw, fun w hw' => by
    unfold execOp
    simp only [ho, hx, Instr.loadAt, Instr.sureAddr, Sem.run_bind, Sem.run_pure, Result.andThen_ok, run_loadVar_row w g _ _ A (0, 0) _ (hS w hw') Tryz.underlying114 rfl (info_it hA)]⟩
end
theorem grown_drew {w w' : World} {r : Option Nat} (h : w.drew.grownBy w' r) : w.grownBy w' r := ⟨h.os, h.tape, h.output, h.size, h.block⟩
theorem Own.some_of {w : World} {B : Nat} {e : TypeId} {p : Option Addr} {n c : Nat} {l : List It} (h : Own clIt w B e (.slice p n c) l) (hl : 0 < l.length) : ∃ g, p = some ⟨g, 0, none⟩ := by
  rcases h.2 with ⟨e1, h0⟩ | ⟨g, cap, cur, e1, _⟩
  · omega
  · cases e1; exact ⟨g, rfl⟩
set_option maxHeartbeats 4000000 in
theorem put_any (w : World) (B0 bs o : Nat) (cur : Array Value) (ty : TypeId) (p : Option Addr) (m c : Nat) (mk : Int) (l : List It) (x : It) (X : Array Value) (hX : IsIt X x)
    (hm : w.heap[bs]? = some (.cells cur ty)) (hc0 : cur[o]? = some (.slice p m c)) (hc1 : cur[o + 1]? = some (.int .i64 mk)) (hown : Own clIt w B0 114 (.slice p m c) l) (hne : (Value.slice p m c).ownBlock ≠ some bs) (hB0 : B0 ≤ w.heap.size) (hl : l.length ≤ 1000) :
    Calls Tryz.prog 80 #[.pointer (some ⟨bs, o, none⟩), .agg X] w fun e w' => e = .returned (.tuple #[]) ∧ ∃ s : Sl, Own clIt w' B0 114 s.val (pin x l) ∧ PF w w' bs o cur ty (.slice p m c) s.val := by
  have hlg : LgR w bs o p m c mk l := ⟨by rw [cell_of_row _ _ _ _ _ _ hm]; exact hc0, by rw [cell_of_row _ _ _ _ _ _ hm]; exact hc1, (Own.sl (s := ⟨p, m, c⟩) hown).2, (Own.sl (s := ⟨p, m, c⟩) hown).1, by have h : l.length = m := (Own.sl (s := ⟨p, m, c⟩) hown).1; omega⟩
  have H : Hid (LgR w bs o p m c mk l) := hlg
  have HX : Hid (IsIt X x) := hX
  have HM : Hid (w.heap[bs]? = some (.cells cur ty) ∧ cur[o]? = some (.slice p m c) ∧ Own clIt w B0 114 (.slice p m c) l ∧ (Value.slice p m c).ownBlock ≠ some bs) := ⟨hm, hc0, hown, hne⟩
  have hbs := lt_of_blk hm
  have hlen := hlg.len
  have hpl := plc_le x.leaf x.win l
  have HI := pin_plc x l
  have x0 := hX.get0
  have x1 := hX.get1
  have hmm : m ≤ 1000 := by omega
  clear hlg hX hm hc0 hc1 hown hne
  obtain ⟨q, hq⟩ : ∃ q, q = plc x.leaf x.win l := ⟨_, rfl⟩
  rw [← hq] at HI hpl
  obtain ⟨av, hav⟩ : ∃ av, atk x.leaf x.win l q = av := ⟨_, rfl⟩
  rw [hav] at HI
  have HQ : Hid (q = plc x.leaf x.win l) := hq
  have HV : Hid (atk x.leaf x.win l q = av) := hav
  obtain ⟨lf, hlf⟩ : ∃ lf, lf = x.leaf := ⟨_, rfl⟩
  obtain ⟨wn, hwn⟩ : ∃ wn, wn = x.win := ⟨_, rfl⟩
  rw [← hlf] at x0 HQ HV hav
  rw [← hwn] at x1 HQ HV hav
  clear hq hlf hwn
  have HWB : Hid (Below w.heap.size w (w.alloc (.cells X 114))) := below_alloc _ _
  cases av with
  | true =>
    rw [if_pos rfl] at HI
    have HI' : Hid (pin x l = l.set q x) := HI
    have hqm : q < m := by
      rcases Nat.lt_or_ge q l.length with h | h
      · omega
      · unfold atk at hav; rw [List.getElem?_eq_none h] at hav; simp at hav
    obtain ⟨g, rfl⟩ := HM.out.2.2.1.some_of (by omega)
    clear HI hav
    go_enter Tryz.func80, Tryz.ntmps80
    go_upto_region 8 with (first | (go_at_call 91; refine (place_any _ _ _ _ _ _ _ l (H.out.below (below_alloc _ _)) _ _).mono ?_; rintro e w1 ⟨rfl, hb1⟩; rw [← HQ.out]; have H1 : Hid _ := (H.out.below (below_alloc _ _)).below hb1; have hB1 : Hid _ := bnext (below_alloc _ _) hb1; have gX : Hid (w1.heap[w.heap.size]? = some (.cells X 114)) := keep hb1 (heap_alloc_new w _); have z0 : w1.cell? ⟨w.heap.size, 0, none⟩ = some (.int .i64 lf) := (by rw [cell_of_row _ _ _ _ _ _ gX.out]; exact x0); have z1 : w1.cell? ⟨w.heap.size, 1, none⟩ = some (.int .i64 wn) := (by rw [cell_of_row _ _ _ _ _ _ gX.out]; exact x1); clear hb1) | (go_at_call 92; refine (isAt_any _ _ _ _ _ _ _ l H1.out q _ _ (by omega)).mono ?_; rintro e w2 ⟨rfl, rfl⟩; rw [HV.out]))
    rename World => w1
    have hgb : g ≠ bs := fun e => HM.out.2.2.2 (by rw [e]; rfl)
    have hgl : g < w.heap.size := (HM.out.2.2.1.lt g rfl).2
    have hT0 : (fun w' : World => w'.cell? ⟨bs, o, none⟩ = some (.slice (some ⟨g, 0, none⟩) m c) ∧ w'.heap[w.heap.size]? = some (.cells X 114)) w1.drew := ⟨H1.out.c0, gX.out⟩
    have q0 : (0 : Int) ≤ (q : Int) := by omega
    have q1 : (q : Int) < (m : Int) := by omega
    refine wp_region_held (S := fun w' : World => w'.cell? ⟨bs, o, none⟩ = some (.slice (some ⟨g, 0, none⟩) m c) ∧ w'.heap[w.heap.size]? = some (.cells X 114)) mixed ?_
    refine wpAnyH_take (i := 0) (v := (.pointer (some ⟨bs, o, none⟩))) rfl (by kernel_rfl) (by kernel_rfl) (by kernel_rfl) (fun _ _ _ h => h) (Or.inl ⟨by rfl, fun wx hx => by go_simp⟩) hT0 ?_
    try dsimp only
    try simp only [Act.put, List.getElem_toArray, List.getElem_cons_succ, List.getElem_cons_zero, List.setIfInBounds_toArray, List.set_cons_zero, List.set_cons_succ]
    refine wpAnyH_take (i := 1) (v := (.pointer (some ⟨bs, o, none⟩))) rfl (by kernel_rfl) (by kernel_rfl) (by kernel_rfl) (fun _ _ _ h => h) (Or.inl ⟨by rfl, fun wx hx => by go_simp⟩) hT0 ?_
    try dsimp only
    try simp only [Act.put, List.getElem_toArray, List.getElem_cons_succ, List.getElem_cons_zero, List.setIfInBounds_toArray, List.set_cons_zero, List.set_cons_succ]
    refine wpAnyH_take (i := 2) (v := (.pointer (some ⟨bs, o, none⟩))) rfl (by kernel_rfl) (by kernel_rfl) (by kernel_rfl) (fun _ _ _ h => h) (Or.inl ⟨by rfl, fun wx hx => by go_simp⟩) hT0 ?_
    try dsimp only
    try simp only [Act.put, List.getElem_toArray, List.getElem_cons_succ, List.getElem_cons_zero, List.setIfInBounds_toArray, List.set_cons_zero, List.set_cons_succ]
    refine wpAnyH_take (i := 3) (v := (.slice (some ⟨g, 0, none⟩) m c)) rfl (by kernel_rfl) (by kernel_rfl) (by kernel_rfl) (fun _ _ _ h => h) (Or.inl ⟨by rfl, fun wx hx => by have hx1 := hx.1; go_simp⟩) hT0 ?_
    try dsimp only
    try simp only [Act.put, List.getElem_toArray, List.getElem_cons_succ, List.getElem_cons_zero, List.setIfInBounds_toArray, List.set_cons_zero, List.set_cons_succ]
    refine wpAnyH_take (i := 4) (v := (.int .i64 q)) rfl (by kernel_rfl) (by kernel_rfl) (by kernel_rfl) (fun _ _ _ h => h) (Or.inl ⟨by rfl, fun wx hx => by go_simp⟩) hT0 ?_
    try dsimp only
    try simp only [Act.put, List.getElem_toArray, List.getElem_cons_succ, List.getElem_cons_zero, List.setIfInBounds_toArray, List.set_cons_zero, List.set_cons_succ]
    refine wpAnyH_take (i := 5) (v := (.agg X)) rfl (by kernel_rfl) (by kernel_rfl) (by kernel_rfl) (fun _ _ _ h => h) (yieldsIf_load_itB (by rfl) _ rfl _ rfl X _ HX.out (fun wx hx => hx.2)) hT0 ?_
    try dsimp only
    try simp only [Act.put, List.getElem_toArray, List.getElem_cons_succ, List.getElem_cons_zero, List.setIfInBounds_toArray, List.set_cons_zero, List.set_cons_succ]
    refine wpAnyH_take (i := 6) (v := (.pointer (some ⟨g, q * 32, none⟩))) rfl (by kernel_rfl) (by kernel_rfl) (by kernel_rfl) (fun _ _ _ h => h) (Or.inl ⟨by rfl, fun wx hx => by go_simp⟩) hT0 ?_
    try dsimp only
    try simp only [Act.put, List.getElem_toArray, List.getElem_cons_succ, List.getElem_cons_zero, List.setIfInBounds_toArray, List.set_cons_zero, List.set_cons_succ]
    refine wpAnyH_all (rs := [7]) (by kernel_rfl) (by simp) ?_
    intro jj hjj
    simp only [List.mem_cons, List.not_mem_nil, or_false] at hjj
    subst hjj
    refine wpOp_store_own rfl rfl _ _ rfl g q m c B0 (q * 32) X x l rfl rfl HX.out (by exact (HM.out.2.2.1.below (below_drawn hB1.out _))) (by omega) rfl ?_
    intro w3 o3 g3
    have g3' : w1.grownBy w3 (some g) := grown_drew g3
    have hB := hB1.out.size
    refine ⟨⟨by rw [World.cell?_of_block (w := w1) (g3'.block bs (by omega) (fun e => hgb (Option.some.inj e).symm))]; exact H1.out.c0, by rw [g3'.block _ (lt_of_blk gX.out) (fun e => by have := Option.some.inj e; omega)]; exact gX.out⟩, ?_⟩
    try dsimp only
    try simp only [Act.put, List.getElem_toArray, List.getElem_cons_succ, List.getElem_cons_zero, List.setIfInBounds_toArray, List.set_cons_zero, List.set_cons_succ]
    refine wpAnyH_done (by kernel_rfl) ?_ _
    have Z : Hid (PF w w3 bs o cur ty (.slice (some ⟨g, 0, none⟩) m c) (.slice (some ⟨g, 0, none⟩) m c)) := (PF.start hB1.out HM.out.1 HM.out.2.1).grown rfl g3' hgb hbs
    clear hT0
    go_wp2
    exact bodyPost_end (results_none rfl _ _ _) rfl ⟨rfl, ⟨some ⟨g, 0, none⟩, m, c⟩, by rw [HI'.out]; exact o3, Z.out⟩
  | false =>
    rw [if_neg (by simp)] at HI
    have HI' : Hid (pin x l = l.take q ++ x :: l.drop q) := HI
    clear HI hav
    go_enter Tryz.func80, Tryz.ntmps80
    go_upto_region 3 with (first | (go_at_call 91; refine (place_any _ _ _ _ _ _ _ l (H.out.below (below_alloc _ _)) _ _).mono ?_; rintro e w1 ⟨rfl, hb1⟩; rw [← HQ.out]; have H1 : Hid _ := (H.out.below (below_alloc _ _)).below hb1; have hB1 : Hid _ := bnext (below_alloc _ _) hb1; have gX : Hid (w1.heap[w.heap.size]? = some (.cells X 114)) := keep hb1 (heap_alloc_new w _); have z0 : w1.cell? ⟨w.heap.size, 0, none⟩ = some (.int .i64 lf) := (by rw [cell_of_row _ _ _ _ _ _ gX.out]; exact x0); have z1 : w1.cell? ⟨w.heap.size, 1, none⟩ = some (.int .i64 wn) := (by rw [cell_of_row _ _ _ _ _ _ gX.out]; exact x1); clear hb1) | (go_at_call 92; refine (isAt_any _ _ _ _ _ _ _ l H1.out q _ _ (by omega)).mono ?_; rintro e w2 ⟨rfl, rfl⟩; rw [HV.out]))
    rename World => w1
    have hs1 := hB1.out.size
    have hx1 := lt_of_blk gX.out
    have d0 := H1.out.c0
    have hOB : Hid (∀ k, (Value.slice p m c).ownBlock = some k → B0 ≤ k ∧ k < w.heap.size) := HM.out.2.2.1.lt
    clear z0 z1
    go_cut [27] (fun _ wx => ∃ gb cb, Own clIt wx B0 114 (.slice (some ⟨gb, 0, none⟩) (m + 1) cb) (l ++ [x]) ∧ PF w wx bs o cur ty (.slice p m c) (.slice (some ⟨gb, 0, none⟩) (m + 1) cb) ∧ wx.heap[w.heap.size]? = some (.cells X 114) ∧ gb ≠ bs ∧ gb ≠ w.heap.size)
    case first =>
      have hT0 : (fun w' : World => w'.heap[w.heap.size]? = some (.cells X 114)) w1.drew := gX.out
      refine wp_region_held (S := fun w' : World => w'.heap[w.heap.size]? = some (.cells X 114)) mixed ?_
      refine wpAnyH_take (i := 0) (v := (.pointer (some ⟨bs, o, none⟩))) rfl (by kernel_rfl) (by kernel_rfl) (by kernel_rfl) (fun _ _ _ h => h) (Or.inl ⟨by rfl, fun wx hx => by go_simp⟩) hT0 ?_
      try dsimp only
      try simp only [Act.put, List.getElem_toArray, List.getElem_cons_succ, List.getElem_cons_zero, List.setIfInBounds_toArray, List.set_cons_zero, List.set_cons_succ]
      refine wpAnyH_take (i := 1) (v := (.pointer (some ⟨bs, o, none⟩))) rfl (by kernel_rfl) (by kernel_rfl) (by kernel_rfl) (fun _ _ _ h => h) (Or.inl ⟨by rfl, fun wx hx => by go_simp⟩) hT0 ?_
      try dsimp only
      try simp only [Act.put, List.getElem_toArray, List.getElem_cons_succ, List.getElem_cons_zero, List.setIfInBounds_toArray, List.set_cons_zero, List.set_cons_succ]
      refine wpAnyH_take (i := 2) (v := (.pointer (some ⟨bs, o, none⟩))) rfl (by kernel_rfl) (by kernel_rfl) (by kernel_rfl) (fun _ _ _ h => h) (Or.inl ⟨by rfl, fun wx hx => by go_simp⟩) hT0 ?_
      try dsimp only
      try simp only [Act.put, List.getElem_toArray, List.getElem_cons_succ, List.getElem_cons_zero, List.setIfInBounds_toArray, List.set_cons_zero, List.set_cons_succ]
      refine wpAnyH_take (i := 3) (v := (.pointer (some ⟨bs, o, none⟩))) rfl (by kernel_rfl) (by kernel_rfl) (by kernel_rfl) (fun _ _ _ h => h) (Or.inl ⟨by rfl, fun wx hx => by go_simp⟩) hT0 ?_
      try dsimp only
      try simp only [Act.put, List.getElem_toArray, List.getElem_cons_succ, List.getElem_cons_zero, List.setIfInBounds_toArray, List.set_cons_zero, List.set_cons_succ]
      refine wpAnyH_take (i := 5) (v := (.agg X)) rfl (by kernel_rfl) (by kernel_rfl) (by kernel_rfl) (fun _ _ _ h => h) (yieldsIf_load_itB (by rfl) _ rfl _ rfl X _ HX.out (fun wx hx => hx)) hT0 ?_
      try dsimp only
      try simp only [Act.put, List.getElem_toArray, List.getElem_cons_succ, List.getElem_cons_zero, List.setIfInBounds_toArray, List.set_cons_zero, List.set_cons_succ]
      refine wpAnyH_all (rs := [4, 6]) (by kernel_rfl) (by simp) ?_
      intro jj hjj
      simp only [List.mem_cons, List.not_mem_nil, or_false] at hjj
      rcases hjj with rfl | rfl
      · skip
        refine wpOp_of_wp rfl rfl (hideK ?_)
        intro K' hK'
        go_simp
        rw [hK'.out]
        refine ⟨hT0, ?_⟩
        try dsimp only
        try simp only [Act.put, List.getElem_toArray, List.getElem_cons_succ, List.getElem_cons_zero, List.setIfInBounds_toArray, List.set_cons_zero, List.set_cons_succ]
        refine wpAnyH_all (rs := [6]) (by kernel_rfl) (by simp) ?_
        intro jj hjj
        simp only [List.mem_cons, List.not_mem_nil, or_false] at hjj
        subst hjj
        refine wpOp_build1_cl slIt rfl rfl _ rfl x (.agg X) rfl HX.out (by decide) ?_
        intro R1
        have hT1 : (fun w' : World => w'.heap[w.heap.size]? = some (.cells X 114)) (w1.drew.alloc (.cells (flat clIt [x]).toArray 114)) := blk_old (w := w1.drew) hT0
        refine ⟨hT1, ?_⟩
        try dsimp only
        try simp only [Act.put, List.getElem_toArray, List.getElem_cons_succ, List.getElem_cons_zero, List.setIfInBounds_toArray, List.set_cons_zero, List.set_cons_succ]
        refine wpAnyH_all (rs := [7]) (by kernel_rfl) (by simp) ?_
        intro jj hjj
        simp only [List.mem_cons, List.not_mem_nil, or_false] at hjj
        subst hjj
        refine wpOp_append_cl slIt rfl rfl _ _ rfl B0 (.slice p m c) l rfl (by exact HM.out.2.2.1.below (bnext (below_drawn hB1.out _) (below_alloc w1.drew _))) _ 1 _ [x] rfl rfl R1 (by omega) (by simp only [maxLen]; omega) (by omega) (by simp; omega) ?_
        intro v1 w2 o1 g1 t1 f1
        obtain ⟨gb, cb, rfl⟩ := f1
        have hlen2 : (l ++ [x]).length = m + 1 := by simp; omega
        rw [hlen2] at o1 t1
        have hob : ∀ k, k < w1.heap.size → some k ≠ (Value.slice p m c).ownBlock → w2.heap[k]? = w1.heap[k]? := fun k hk hn => by
          rw [g1.block k (by simp; omega) hn]; exact Below.heap_alloc w1.drew _ k hk
        have hgb : gb ≠ bs ∧ gb ≠ w.heap.size := by
          rcases t1 with t1 | t1
          · have h1 := hOB.out gb t1.symm
            exact ⟨fun e => HM.out.2.2.2 (by rw [← t1, e]; rfl), by omega⟩
          · have h1 : gb = w1.heap.size + 1 := by simpa [Value.ownBlock] using t1
            omega
        have hT2 : (fun w' : World => w'.heap[w.heap.size]? = some (.cells X 114)) w2 := by
          show w2.heap[w.heap.size]? = _
          rw [hob _ hx1 (fun e => by have := (hOB.out _ e.symm).2; omega)]; exact gX.out
        refine ⟨hT2, ?_⟩
        try dsimp only
        try simp only [Act.put, List.getElem_toArray, List.getElem_cons_succ, List.getElem_cons_zero, List.setIfInBounds_toArray, List.set_cons_zero, List.set_cons_succ]
        refine wpAnyH_take (i := 8) (v := (.pointer (some ⟨bs, o, none⟩))) rfl (by kernel_rfl) (by kernel_rfl) (by kernel_rfl) (fun _ _ _ h => h) (Or.inl ⟨by rfl, fun wx hx => by go_simp⟩) hT2 ?_
        try dsimp only
        try simp only [Act.put, List.getElem_toArray, List.getElem_cons_succ, List.getElem_cons_zero, List.setIfInBounds_toArray, List.set_cons_zero, List.set_cons_succ]
        refine wpAnyH_take (i := 9) (v := (.pointer (some ⟨bs, o, none⟩))) rfl (by kernel_rfl) (by kernel_rfl) (by kernel_rfl) (fun _ _ _ h => h) (Or.inl ⟨by rfl, fun wx hx => by go_simp⟩) hT2 ?_
        try dsimp only
        try simp only [Act.put, List.getElem_toArray, List.getElem_cons_succ, List.getElem_cons_zero, List.setIfInBounds_toArray, List.set_cons_zero, List.set_cons_succ]
        refine wpAnyH_all (rs := [10]) (by kernel_rfl) (by simp) ?_
        intro jj hjj
        simp only [List.mem_cons, List.not_mem_nil, or_false] at hjj
        subst hjj
        have hm2 : w2.heap[bs]? = some (.cells cur ty) := by
          rw [hob bs (by omega) (fun e => HM.out.2.2.2 e.symm), hB1.out.block bs hbs]; exact HM.out.1
        have cx : w2.cell? ⟨bs, o, none⟩ = some (.slice p m c) := by rw [cell_of_row _ _ _ _ _ _ hm2]; exact HM.out.2.1
        have fx : w2.frozen? ⟨bs, o, none⟩ = false := frozen_of_row _ _ _ _ _ hm2
        have hT3 : (fun w' : World => w'.heap[w.heap.size]? = some (.cells X 114)) (w2.setCell ⟨bs, o, none⟩ (.slice (some ⟨gb, 0, none⟩) (m + 1) cb)) := by
          show (w2.setCell _ _).heap[w.heap.size]? = _
          rw [heap_setCell_other _ _ _ _ (by show w.heap.size ≠ bs; omega)]; exact hT2
        rw [hlen2]
        refine wpOp_of_wp rfl rfl (hideK ?_)
        intro K' hK'
        go_simp
        rw [hK'.out]
        refine ⟨hT3, ?_⟩
        try dsimp only
        try simp only [Act.put, List.getElem_toArray, List.getElem_cons_succ, List.getElem_cons_zero, List.setIfInBounds_toArray, List.set_cons_zero, List.set_cons_succ]
        refine wpAnyH_done (by kernel_rfl) ?_ _
        have Z : PF w (w2.setCell ⟨bs, o, none⟩ (.slice (some ⟨gb, 0, none⟩) (m + 1) cb)) bs o cur ty (.slice p m c) (.slice (some ⟨gb, 0, none⟩) (m + 1) cb) := by
          refine ⟨g1.os.trans hB1.out.os, g1.tape.trans hB1.out.tape, g1.output.trans hB1.out.output, ?_, fun k hk h1 h2 => ?_, ?_, ?_⟩
          · have := g1.size; simp at this ⊢; omega
          · rw [heap_setCell_other _ _ _ _ (by show k ≠ bs; exact h1), hob k (by omega) h2]; exact hB1.out.block k hk
          · rw [heap_setCell_same _ _ _ _ _ _ hm2]
          · rcases t1 with t1 | t1
            · exact .inl t1
            · exact .inr ⟨_, t1, by simp; omega⟩
        have Z2 : Own clIt (w2.setCell ⟨bs, o, none⟩ (.slice (some ⟨gb, 0, none⟩) (m + 1) cb)) B0 114 (.slice (some ⟨gb, 0, none⟩) (m + 1) cb) (l ++ [x]) := o1.chg fun k hk => by
          have hk' : gb = k := by simpa [Value.ownBlock] using hk
          exact heap_setCell_other _ _ _ _ (by show k ≠ bs; rw [← hk']; exact hgb.1)
        clear hT0 hT1 hT2 cx fx R1 o1 g1 t1 hob hm2
        go_wp2_with fail
        go_meet
        exact ⟨gb, cb, Z2, Z, hT3, hgb.1, hgb.2⟩
      · skip
        refine wpOp_build1_cl slIt rfl rfl _ rfl x (.agg X) rfl HX.out (by decide) ?_
        intro R1
        have hT1 : (fun w' : World => w'.heap[w.heap.size]? = some (.cells X 114)) (w1.drew.alloc (.cells (flat clIt [x]).toArray 114)) := blk_old (w := w1.drew) hT0
        refine ⟨hT1, ?_⟩
        try dsimp only
        try simp only [Act.put, List.getElem_toArray, List.getElem_cons_succ, List.getElem_cons_zero, List.setIfInBounds_toArray, List.set_cons_zero, List.set_cons_succ]
        refine wpAnyH_all (rs := [4]) (by kernel_rfl) (by simp) ?_
        intro jj hjj
        simp only [List.mem_cons, List.not_mem_nil, or_false] at hjj
        subst hjj
        have d0' : (w1.alloc (.cells (flat clIt [x]).toArray 114)).cell? ⟨bs, o, none⟩ = some (.slice p m c) := cell_keep (below_alloc w1 _) d0
        refine wpOp_of_wp rfl rfl (hideK ?_)
        intro K' hK'
        go_simp
        rw [hK'.out]
        refine ⟨hT1, ?_⟩
        try dsimp only
        try simp only [Act.put, List.getElem_toArray, List.getElem_cons_succ, List.getElem_cons_zero, List.setIfInBounds_toArray, List.set_cons_zero, List.set_cons_succ]
        refine wpAnyH_all (rs := [7]) (by kernel_rfl) (by simp) ?_
        intro jj hjj
        simp only [List.mem_cons, List.not_mem_nil, or_false] at hjj
        subst hjj
        refine wpOp_append_cl slIt rfl rfl _ _ rfl B0 (.slice p m c) l rfl (by exact HM.out.2.2.1.below (bnext (below_drawn hB1.out _) (below_alloc w1.drew _))) _ 1 _ [x] rfl rfl R1 (by omega) (by simp only [maxLen]; omega) (by omega) (by simp; omega) ?_
        intro v1 w2 o1 g1 t1 f1
        obtain ⟨gb, cb, rfl⟩ := f1
        have hlen2 : (l ++ [x]).length = m + 1 := by simp; omega
        rw [hlen2] at o1 t1
        have hob : ∀ k, k < w1.heap.size → some k ≠ (Value.slice p m c).ownBlock → w2.heap[k]? = w1.heap[k]? := fun k hk hn => by
          rw [g1.block k (by simp; omega) hn]; exact Below.heap_alloc w1.drew _ k hk
        have hgb : gb ≠ bs ∧ gb ≠ w.heap.size := by
          rcases t1 with t1 | t1
          · have h1 := hOB.out gb t1.symm
            exact ⟨fun e => HM.out.2.2.2 (by rw [← t1, e]; rfl), by omega⟩
          · have h1 : gb = w1.heap.size + 1 := by simpa [Value.ownBlock] using t1
            omega
        have hT2 : (fun w' : World => w'.heap[w.heap.size]? = some (.cells X 114)) w2 := by
          show w2.heap[w.heap.size]? = _
          rw [hob _ hx1 (fun e => by have := (hOB.out _ e.symm).2; omega)]; exact gX.out
        refine ⟨hT2, ?_⟩
        try dsimp only
        try simp only [Act.put, List.getElem_toArray, List.getElem_cons_succ, List.getElem_cons_zero, List.setIfInBounds_toArray, List.set_cons_zero, List.set_cons_succ]
        refine wpAnyH_take (i := 8) (v := (.pointer (some ⟨bs, o, none⟩))) rfl (by kernel_rfl) (by kernel_rfl) (by kernel_rfl) (fun _ _ _ h => h) (Or.inl ⟨by rfl, fun wx hx => by go_simp⟩) hT2 ?_
        try dsimp only
        try simp only [Act.put, List.getElem_toArray, List.getElem_cons_succ, List.getElem_cons_zero, List.setIfInBounds_toArray, List.set_cons_zero, List.set_cons_succ]
        refine wpAnyH_take (i := 9) (v := (.pointer (some ⟨bs, o, none⟩))) rfl (by kernel_rfl) (by kernel_rfl) (by kernel_rfl) (fun _ _ _ h => h) (Or.inl ⟨by rfl, fun wx hx => by go_simp⟩) hT2 ?_
        try dsimp only
        try simp only [Act.put, List.getElem_toArray, List.getElem_cons_succ, List.getElem_cons_zero, List.setIfInBounds_toArray, List.set_cons_zero, List.set_cons_succ]
        refine wpAnyH_all (rs := [10]) (by kernel_rfl) (by simp) ?_
        intro jj hjj
        simp only [List.mem_cons, List.not_mem_nil, or_false] at hjj
        subst hjj
        have hm2 : w2.heap[bs]? = some (.cells cur ty) := by
          rw [hob bs (by omega) (fun e => HM.out.2.2.2 e.symm), hB1.out.block bs hbs]; exact HM.out.1
        have cx : w2.cell? ⟨bs, o, none⟩ = some (.slice p m c) := by rw [cell_of_row _ _ _ _ _ _ hm2]; exact HM.out.2.1
        have fx : w2.frozen? ⟨bs, o, none⟩ = false := frozen_of_row _ _ _ _ _ hm2
        have hT3 : (fun w' : World => w'.heap[w.heap.size]? = some (.cells X 114)) (w2.setCell ⟨bs, o, none⟩ (.slice (some ⟨gb, 0, none⟩) (m + 1) cb)) := by
          show (w2.setCell _ _).heap[w.heap.size]? = _
          rw [heap_setCell_other _ _ _ _ (by show w.heap.size ≠ bs; omega)]; exact hT2
        rw [hlen2]
        refine wpOp_of_wp rfl rfl (hideK ?_)
        intro K' hK'
        go_simp
        rw [hK'.out]
        refine ⟨hT3, ?_⟩
        try dsimp only
        try simp only [Act.put, List.getElem_toArray, List.getElem_cons_succ, List.getElem_cons_zero, List.setIfInBounds_toArray, List.set_cons_zero, List.set_cons_succ]
        refine wpAnyH_done (by kernel_rfl) ?_ _
        have Z : PF w (w2.setCell ⟨bs, o, none⟩ (.slice (some ⟨gb, 0, none⟩) (m + 1) cb)) bs o cur ty (.slice p m c) (.slice (some ⟨gb, 0, none⟩) (m + 1) cb) := by
          refine ⟨g1.os.trans hB1.out.os, g1.tape.trans hB1.out.tape, g1.output.trans hB1.out.output, ?_, fun k hk h1 h2 => ?_, ?_, ?_⟩
          · have := g1.size; simp at this ⊢; omega
          · rw [heap_setCell_other _ _ _ _ (by show k ≠ bs; exact h1), hob k (by omega) h2]; exact hB1.out.block k hk
          · rw [heap_setCell_same _ _ _ _ _ _ hm2]
          · rcases t1 with t1 | t1
            · exact .inl t1
            · exact .inr ⟨_, t1, by simp; omega⟩
        have Z2 : Own clIt (w2.setCell ⟨bs, o, none⟩ (.slice (some ⟨gb, 0, none⟩) (m + 1) cb)) B0 114 (.slice (some ⟨gb, 0, none⟩) (m + 1) cb) (l ++ [x]) := o1.chg fun k hk => by
          have hk' : gb = k := by simpa [Value.ownBlock] using hk
          exact heap_setCell_other _ _ _ _ (by show k ≠ bs; rw [← hk']; exact hgb.1)
        clear hT0 hT1 hT2 cx fx R1 o1 g1 t1 hob hm2
        go_wp2_with fail
        go_meet
        exact ⟨gb, cb, Z2, Z, hT3, hgb.1, hgb.2⟩
    case rest =>
      obtain ⟨gb, cb, o2, pf, gX2, ngb, ngx⟩ := hcut
      clear gX d0 H1 hB1 hs1 hx1
      obtain ⟨M1, hM1⟩ : ∃ M1, M1 = m + 1 := ⟨_, rfl⟩
      rw [← hM1] at o2 pf
      have HM1 : Hid (M1 = m + 1) := hM1
      have e1 : IntKind.i64.wrap ((M1 : Int) - 1) = (m : Int) := by rw [IntWalk.i64_in _ ⟨by omega, by omega⟩]; omega
      have cellOf : Hid (∀ wr, PF w wr bs o cur ty (.slice p m c) (.slice (some ⟨gb, 0, none⟩) M1 cb) → wr.cell? ⟨bs, o, none⟩ = some (.slice (some ⟨gb, 0, none⟩) M1 cb)) := fun wr pf => by
        rw [cell_of_row _ _ _ _ _ _ pf.main]; simp [Array.getElem?_setIfInBounds, (Array.getElem?_eq_some_iff.1 HM.out.2.1).1]
      have d2 := cellOf.out wc pf
      have HO2 : Hid (Own clIt wc B0 114 (.slice (some ⟨gb, 0, none⟩) M1 cb) (l ++ [x]) ∧ PF w wc bs o cur ty (.slice p m c) (.slice (some ⟨gb, 0, none⟩) M1 cb) ∧ wc.heap[w.heap.size]? = some (.cells X 114)) := ⟨o2, pf, gX2⟩
      clear o2 pf gX2 hM1
      go_wp2
      go_loopw [5] (fun i wr => ∃ (k : Nat) (y : It), q ≤ k ∧ k ≤ m ∧ i = .int .i64 k ∧ Own clIt wr B0 114 (.slice (some ⟨gb, 0, none⟩) M1 cb) (l.take k ++ y :: l.drop k) ∧ PF w wr bs o cur ty (.slice p m c) (.slice (some ⟨gb, 0, none⟩) M1 cb) ∧ wr.heap[w.heap.size]? = some (.cells X 114)) (fun i _ => (intOf i).toNat)
      case atStart => exact ⟨m, x, by omega, Nat.le_refl _, by go_num, by rw [List.take_of_length_le (by omega), List.drop_of_length_le (by omega)]; exact HO2.out.1, HO2.out.2⟩
      case round =>
        clear HO2 d2 e1
        obtain ⟨k, y, hqk, hkm, rfl, o3, pf3, gX3⟩ := hrel
        have d3 := cellOf.out wr pf3
        have HR3 : Hid (Own clIt wr B0 114 (.slice (some ⟨gb, 0, none⟩) M1 cb) (l.take k ++ y :: l.drop k) ∧ PF w wr bs o cur ty (.slice p m c) (.slice (some ⟨gb, 0, none⟩) M1 cb) ∧ wr.heap[w.heap.size]? = some (.cells X 114)) := ⟨o3, pf3, gX3⟩
        clear o3 pf3 gX3
        have kk0 : (0 : Int) ≤ (k : Int) := by omega
        have kk1 : (k : Int) < (M1 : Int) := by have := HM1.out; omega
        by_cases hgt : q < k
        · obtain ⟨j, hj⟩ : ∃ j, k = j + 1 := ⟨k - 1, by omega⟩
          have HJ : Hid (k = j + 1) := hj
          obtain ⟨z, hz⟩ : ∃ z, l[j]? = some z := ⟨_, List.getElem?_eq_getElem (by omega)⟩
          have HZ : Hid (l[j]? = some z) := hz
          have es : IntKind.i64.wrap ((k : Int) - 1) = (j : Int) := by rw [IntWalk.i64_in _ ⟨by omega, by omega⟩]; omega
          have jj0 : (0 : Int) ≤ (j : Int) := by omega
          have jj1 : (j : Int) < (M1 : Int) := by omega
          clear hj hz
          go_upto_region 7 with fail
          have hT0 : (fun w' : World => w'.cell? ⟨bs, o, none⟩ = some (.slice (some ⟨gb, 0, none⟩) M1 cb)) wr.drew := d3
          refine wp_region_held (S := fun w' : World => w'.cell? ⟨bs, o, none⟩ = some (.slice (some ⟨gb, 0, none⟩) M1 cb)) mixed ?_
          refine wpAnyH_take (i := 0) (v := (.pointer (some ⟨bs, o, none⟩))) rfl (by kernel_rfl) (by kernel_rfl) (by kernel_rfl) (fun _ _ _ h => h) (Or.inl ⟨by rfl, fun wx hx => by go_simp⟩) hT0 ?_
          try dsimp only
          try simp only [Act.put, List.getElem_toArray, List.getElem_cons_succ, List.getElem_cons_zero, List.setIfInBounds_toArray, List.set_cons_zero, List.set_cons_succ]
          refine wpAnyH_take (i := 1) (v := (.pointer (some ⟨bs, o, none⟩))) rfl (by kernel_rfl) (by kernel_rfl) (by kernel_rfl) (fun _ _ _ h => h) (Or.inl ⟨by rfl, fun wx hx => by go_simp⟩) hT0 ?_
          try dsimp only
          try simp only [Act.put, List.getElem_toArray, List.getElem_cons_succ, List.getElem_cons_zero, List.setIfInBounds_toArray, List.set_cons_zero, List.set_cons_succ]
          refine wpAnyH_take (i := 2) (v := (.pointer (some ⟨bs, o, none⟩))) rfl (by kernel_rfl) (by kernel_rfl) (by kernel_rfl) (fun _ _ _ h => h) (Or.inl ⟨by rfl, fun wx hx => by go_simp⟩) hT0 ?_
          try dsimp only
          try simp only [Act.put, List.getElem_toArray, List.getElem_cons_succ, List.getElem_cons_zero, List.setIfInBounds_toArray, List.set_cons_zero, List.set_cons_succ]
          refine wpAnyH_take (i := 3) (v := (.slice (some ⟨gb, 0, none⟩) M1 cb)) rfl (by kernel_rfl) (by kernel_rfl) (by kernel_rfl) (fun _ _ _ h => h) (Or.inl ⟨by rfl, fun wx hx => by have hx1 := hx; go_simp⟩) hT0 ?_
          try dsimp only
          try simp only [Act.put, List.getElem_toArray, List.getElem_cons_succ, List.getElem_cons_zero, List.setIfInBounds_toArray, List.set_cons_zero, List.set_cons_succ]
          refine wpAnyH_take (i := 4) (v := (.int .i64 k)) rfl (by kernel_rfl) (by kernel_rfl) (by kernel_rfl) (fun _ _ _ h => h) (Or.inl ⟨by rfl, fun wx hx => by go_simp⟩) hT0 ?_
          try dsimp only
          try simp only [Act.put, List.getElem_toArray, List.getElem_cons_succ, List.getElem_cons_zero, List.setIfInBounds_toArray, List.set_cons_zero, List.set_cons_succ]
          refine wpAnyH_take (i := 5) (v := (.pointer (some ⟨bs, o, none⟩))) rfl (by kernel_rfl) (by kernel_rfl) (by kernel_rfl) (fun _ _ _ h => h) (Or.inl ⟨by rfl, fun wx hx => by go_simp⟩) hT0 ?_
          try dsimp only
          try simp only [Act.put, List.getElem_toArray, List.getElem_cons_succ, List.getElem_cons_zero, List.setIfInBounds_toArray, List.set_cons_zero, List.set_cons_succ]
          refine wpAnyH_take (i := 6) (v := (.pointer (some ⟨bs, o, none⟩))) rfl (by kernel_rfl) (by kernel_rfl) (by kernel_rfl) (fun _ _ _ h => h) (Or.inl ⟨by rfl, fun wx hx => by go_simp⟩) hT0 ?_
          try dsimp only
          try simp only [Act.put, List.getElem_toArray, List.getElem_cons_succ, List.getElem_cons_zero, List.setIfInBounds_toArray, List.set_cons_zero, List.set_cons_succ]
          refine wpAnyH_take (i := 7) (v := (.pointer (some ⟨bs, o, none⟩))) rfl (by kernel_rfl) (by kernel_rfl) (by kernel_rfl) (fun _ _ _ h => h) (Or.inl ⟨by rfl, fun wx hx => by go_simp⟩) hT0 ?_
          try dsimp only
          try simp only [Act.put, List.getElem_toArray, List.getElem_cons_succ, List.getElem_cons_zero, List.setIfInBounds_toArray, List.set_cons_zero, List.set_cons_succ]
          refine wpAnyH_take (i := 8) (v := (.slice (some ⟨gb, 0, none⟩) M1 cb)) rfl (by kernel_rfl) (by kernel_rfl) (by kernel_rfl) (fun _ _ _ h => h) (Or.inl ⟨by rfl, fun wx hx => by have hx1 := hx; go_simp⟩) hT0 ?_
          try dsimp only
          try simp only [Act.put, List.getElem_toArray, List.getElem_cons_succ, List.getElem_cons_zero, List.setIfInBounds_toArray, List.set_cons_zero, List.set_cons_succ]
          refine wpAnyH_take (i := 9) (v := (.int .i64 k)) rfl (by kernel_rfl) (by kernel_rfl) (by kernel_rfl) (fun _ _ _ h => h) (Or.inl ⟨by rfl, fun wx hx => by go_simp⟩) hT0 ?_
          try dsimp only
          try simp only [Act.put, List.getElem_toArray, List.getElem_cons_succ, List.getElem_cons_zero, List.setIfInBounds_toArray, List.set_cons_zero, List.set_cons_succ]
          refine wpAnyH_take (i := 10) (v := (.int .i64 j)) rfl (by kernel_rfl) (by kernel_rfl) (by kernel_rfl) (fun _ _ _ h => h) (Or.inl ⟨by rfl, fun wx hx => by go_simp⟩) hT0 ?_
          try dsimp only
          try simp only [Act.put, List.getElem_toArray, List.getElem_cons_succ, List.getElem_cons_zero, List.setIfInBounds_toArray, List.set_cons_zero, List.set_cons_succ]
          refine wpAnyH_take (i := 11) (v := (.pointer (some ⟨gb, j * 32, none⟩))) rfl (by kernel_rfl) (by kernel_rfl) (by kernel_rfl) (fun _ _ _ h => h) (Or.inl ⟨by rfl, fun wx hx => by go_simp⟩) hT0 ?_
          try dsimp only
          try simp only [Act.put, List.getElem_toArray, List.getElem_cons_succ, List.getElem_cons_zero, List.setIfInBounds_toArray, List.set_cons_zero, List.set_cons_succ]
          refine wpAnyH_all (rs := [12]) (by kernel_rfl) (by simp) ?_
          intro jj hjj
          simp only [List.mem_cons, List.not_mem_nil, or_false] at hjj
          subst hjj
          have o3 := HR3.out.1
          refine wpOp_load_it_mid rfl rfl _ rfl gb (j * 32) rfl z (by have h1 := o3.range j z (by rw [HJ.out]; exact sh_get l j y z HZ.out); exact h1) ?_
          intro Z hZ
          refine ⟨hT0, ?_⟩
          try dsimp only
          try simp only [Act.put, List.getElem_toArray, List.getElem_cons_succ, List.getElem_cons_zero, List.setIfInBounds_toArray, List.set_cons_zero, List.set_cons_succ]
          refine wpAnyH_take (i := 13) (v := (.pointer (some ⟨gb, k * 32, none⟩))) rfl (by kernel_rfl) (by kernel_rfl) (by kernel_rfl) (fun _ _ _ h => h) (Or.inl ⟨by rfl, fun wx hx => by go_simp⟩) hT0 ?_
          try dsimp only
          try simp only [Act.put, List.getElem_toArray, List.getElem_cons_succ, List.getElem_cons_zero, List.setIfInBounds_toArray, List.set_cons_zero, List.set_cons_succ]
          refine wpAnyH_all (rs := [14]) (by kernel_rfl) (by simp) ?_
          intro jj hjj
          simp only [List.mem_cons, List.not_mem_nil, or_false] at hjj
          subst hjj
          refine wpOp_store_own rfl rfl _ _ rfl gb k M1 cb B0 (k * 32) Z z _ rfl rfl hZ (by exact o3) (by rw [sh_len l k y (by omega)]; omega) rfl ?_
          intro w4 o4 g4
          have g4' : wr.grownBy w4 (some gb) := grown_drew g4
          have pf4 := HR3.out.2.1.grown rfl g4' ngb hbs
          refine ⟨cellOf.out w4 pf4, ?_⟩
          try dsimp only
          try simp only [Act.put, List.getElem_toArray, List.getElem_cons_succ, List.getElem_cons_zero, List.setIfInBounds_toArray, List.set_cons_zero, List.set_cons_succ]
          refine wpAnyH_done (by kernel_rfl) ?_ _
          have Z4 : Hid (Own clIt w4 B0 114 (.slice (some ⟨gb, 0, none⟩) M1 cb) (l.take j ++ z :: l.drop j) ∧ PF w w4 bs o cur ty (.slice p m c) (.slice (some ⟨gb, 0, none⟩) M1 cb) ∧ w4.heap[w.heap.size]? = some (.cells X 114)) := by
            refine ⟨?_, pf4, ?_⟩
            · rw [HJ.out, sh_step l j y z HZ.out] at o4; exact o4
            · rw [g4'.block _ (lt_of_blk HR3.out.2.2) (fun e => ngx (Option.some.inj e).symm)]; exact HR3.out.2.2
          clear hT0 d3 o3 o4 g4 g4' pf4 HR3 hZ
          go_wp2
          go_roundw
          case rel => exact ⟨j, z, by have := HJ.out; omega, by have := HJ.out; omega, by go_num, Z4.out⟩
          case measure => have := HJ.out; simp [intOf]; omega
        · obtain rfl : k = q := by omega
          go_upto_region 8 with fail
          have hT0 : (fun w' : World => w'.cell? ⟨bs, o, none⟩ = some (.slice (some ⟨gb, 0, none⟩) M1 cb) ∧ w'.heap[w.heap.size]? = some (.cells X 114)) wr.drew := ⟨d3, HR3.out.2.2⟩
          refine wp_region_held (S := fun w' : World => w'.cell? ⟨bs, o, none⟩ = some (.slice (some ⟨gb, 0, none⟩) M1 cb) ∧ w'.heap[w.heap.size]? = some (.cells X 114)) mixed ?_
          refine wpAnyH_take (i := 0) (v := (.pointer (some ⟨bs, o, none⟩))) rfl (by kernel_rfl) (by kernel_rfl) (by kernel_rfl) (fun _ _ _ h => h) (Or.inl ⟨by rfl, fun wx hx => by go_simp⟩) hT0 ?_
          try dsimp only
          try simp only [Act.put, List.getElem_toArray, List.getElem_cons_succ, List.getElem_cons_zero, List.setIfInBounds_toArray, List.set_cons_zero, List.set_cons_succ]
          refine wpAnyH_take (i := 1) (v := (.pointer (some ⟨bs, o, none⟩))) rfl (by kernel_rfl) (by kernel_rfl) (by kernel_rfl) (fun _ _ _ h => h) (Or.inl ⟨by rfl, fun wx hx => by go_simp⟩) hT0 ?_
          try dsimp only
          try simp only [Act.put, List.getElem_toArray, List.getElem_cons_succ, List.getElem_cons_zero, List.setIfInBounds_toArray, List.set_cons_zero, List.set_cons_succ]
          refine wpAnyH_take (i := 2) (v := (.pointer (some ⟨bs, o, none⟩))) rfl (by kernel_rfl) (by kernel_rfl) (by kernel_rfl) (fun _ _ _ h => h) (Or.inl ⟨by rfl, fun wx hx => by go_simp⟩) hT0 ?_
          try dsimp only
          try simp only [Act.put, List.getElem_toArray, List.getElem_cons_succ, List.getElem_cons_zero, List.setIfInBounds_toArray, List.set_cons_zero, List.set_cons_succ]
          refine wpAnyH_take (i := 3) (v := (.slice (some ⟨gb, 0, none⟩) M1 cb)) rfl (by kernel_rfl) (by kernel_rfl) (by kernel_rfl) (fun _ _ _ h => h) (Or.inl ⟨by rfl, fun wx hx => by have hx1 := hx.1; go_simp⟩) hT0 ?_
          try dsimp only
          try simp only [Act.put, List.getElem_toArray, List.getElem_cons_succ, List.getElem_cons_zero, List.setIfInBounds_toArray, List.set_cons_zero, List.set_cons_succ]
          refine wpAnyH_take (i := 4) (v := (.int .i64 k)) rfl (by kernel_rfl) (by kernel_rfl) (by kernel_rfl) (fun _ _ _ h => h) (Or.inl ⟨by rfl, fun wx hx => by go_simp⟩) hT0 ?_
          try dsimp only
          try simp only [Act.put, List.getElem_toArray, List.getElem_cons_succ, List.getElem_cons_zero, List.setIfInBounds_toArray, List.set_cons_zero, List.set_cons_succ]
          refine wpAnyH_take (i := 5) (v := (.agg X)) rfl (by kernel_rfl) (by kernel_rfl) (by kernel_rfl) (fun _ _ _ h => h) (yieldsIf_load_itB (by rfl) _ rfl _ rfl X _ HX.out (fun wx hx => hx.2)) hT0 ?_
          try dsimp only
          try simp only [Act.put, List.getElem_toArray, List.getElem_cons_succ, List.getElem_cons_zero, List.setIfInBounds_toArray, List.set_cons_zero, List.set_cons_succ]
          refine wpAnyH_take (i := 6) (v := (.pointer (some ⟨gb, k * 32, none⟩))) rfl (by kernel_rfl) (by kernel_rfl) (by kernel_rfl) (fun _ _ _ h => h) (Or.inl ⟨by rfl, fun wx hx => by go_simp⟩) hT0 ?_
          try dsimp only
          try simp only [Act.put, List.getElem_toArray, List.getElem_cons_succ, List.getElem_cons_zero, List.setIfInBounds_toArray, List.set_cons_zero, List.set_cons_succ]
          refine wpAnyH_all (rs := [7]) (by kernel_rfl) (by simp) ?_
          intro jj hjj
          simp only [List.mem_cons, List.not_mem_nil, or_false] at hjj
          subst hjj
          refine wpOp_store_own rfl rfl _ _ rfl gb k M1 cb B0 (k * 32) X x _ rfl rfl HX.out (by exact HR3.out.1) (by rw [sh_len l k y (by omega)]; omega) rfl ?_
          intro w4 o4 g4
          have g4' : wr.grownBy w4 (some gb) := grown_drew g4
          have pf4 := HR3.out.2.1.grown rfl g4' ngb hbs
          refine ⟨⟨cellOf.out w4 pf4, by rw [g4'.block _ (lt_of_blk HR3.out.2.2) (fun e => ngx (Option.some.inj e).symm)]; exact HR3.out.2.2⟩, ?_⟩
          try dsimp only
          try simp only [Act.put, List.getElem_toArray, List.getElem_cons_succ, List.getElem_cons_zero, List.setIfInBounds_toArray, List.set_cons_zero, List.set_cons_succ]
          refine wpAnyH_done (by kernel_rfl) ?_ _
          have Z4 : Hid (Own clIt w4 B0 114 (.slice (some ⟨gb, 0, none⟩) M1 cb) (pin x l) ∧ PF w w4 bs o cur ty (.slice p m c) (.slice (some ⟨gb, 0, none⟩) M1 cb)) := by
            rw [sh_set l k y x (by omega)] at o4
            exact ⟨by rw [HI'.out]; exact o4, pf4⟩
          clear hT0 d3 o4 g4 g4' pf4 HR3
          go_wp2
          exact bodyPost_end (results_none rfl _ _ _) rfl ⟨rfl, ⟨some ⟨gb, 0, none⟩, M1, cb⟩, Z4.out.1, Z4.out.2⟩
end Go.Proofs.YtpglbakcjihohaaGreat
