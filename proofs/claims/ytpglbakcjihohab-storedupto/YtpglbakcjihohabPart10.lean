/-
  Stored: what a node was when it was stored it is again when it crashes, and what it sends is that all the while.
-/
import Derived.Test.YtpglbakcjihohabRows
import Derived.Test.YtpglbakcjihohabPart9
set_option linter.unusedSimpArgs false
set_option linter.unusedVariables false
set_option linter.deprecated false
namespace Go.Proofs.Ytpglbakcjihohab
open Go.RowKit
set_option maxRecDepth 100000

theorem stored_back {t : List Int} {D0 D2 : List Nd} {n : Nat} (hn : n < t.length) (hl : D0.length = t.length) (hk : Kst (synD t D0 n) D2) :
    lvAt t (craD t D2 n) n = lvAt t (synD t D0 n) n ∧ wmAt t (craD t D2 n) n = wmAt t (synD t D0 n) n ∧ (n ≠ 0 → Good (lvAt t (synD t D0 n) n) → sndL t D2 n 0 19 = lvAt t (synD t D0 n) n) := by
  have hd : D0[n]? = some (D0[n]'(by omega)) := List.getElem?_eq_getElem _
  obtain ⟨d1, h1, h2, h3⟩ := std_syn hn hd
  obtain ⟨d2, g0, g1, g2, g3, g4⟩ := hk n d1 h1
  have es : std t d2 n = lvAt t (synD t D0 n) n := by rw [std_kst g1 g2 g4, h2, lv_syn]
  obtain ⟨c1, c2⟩ := cra_self hn g0
  refine ⟨by rw [c1, es], ?_, fun h0 hg => ?_⟩
  · rw [c2, g3, h3, wm_syn]
    unfold wmAt
    simp only [Int.toNat_natCast, hd, Option.map_some, Option.getD_some]
  · have hE : sndE t n 0 19 = 0 := by unfold sndE; rw [if_pos (by simp [isNd]; omega), if_neg (by omega), if_pos (by decide)]
    unfold sndL
    rw [if_pos hE]
    simp only [Int.toNat_natCast, g0, Option.map_some, Option.getD_some]
    rw [es]
    exact inRg_all hg
theorem zero_kst : (Try.prog.info? 49).bind (·.zero) = some (.agg #[.int .i64 0, .int .i64 0, .int .i64 0, .string ByteArray.empty, .int .i32 0]) := by kernel_rfl
section
variable {ops : Array Oper} {rest : List Oper} {o : Oper} {a : Act} {w : World} {Q : Exit → Act → World → Prop}
theorem alloc_kst (hgd : o.guard = none) (ho : o.op = .alloc 49)
    (h : wpList Try.prog ops Q rest (a.put o.dst (.pointer (some ⟨w.heap.size, 0, none⟩))) (w.alloc (.cells #[.int .i64 0, .int .i64 0, .int .i64 0, .string ByteArray.empty, .int .i32 0] 49))) : wpList Try.prog ops Q (o :: rest) a w :=
  wpList_alloc_z hgd _ ho _ zero_kst h
theorem store_kst_new (hgd : o.guard = none) (x y : Operand) (ho : o.op = .store 49 x y) (s : KSt) (w0 : World) (c : Array Value) (hc : c.size = 5) (hw : w = w0.alloc (.cells c 49))
    (hx : a.eval x = .pointer (some ⟨w0.heap.size, 0, none⟩)) (hy : a.eval y = .agg #[.int .i64 s.kind, .int .i64 s.a, .int .i64 s.b, .string s.key, .int .i32 s.v])
    (h : wpList Try.prog ops Q rest (a.put o.dst undef) (w0.alloc (.cells #[.int .i64 s.kind, .int .i64 s.a, .int .i64 s.b, .string s.key, .int .i32 s.v] 49))) : wpList Try.prog ops Q (o :: rest) a w := by
  subst hw
  exact wpList_store_new hgd x y ho _ hx hy rfl info_kst (by rw [hc]; rfl) (by simp [Value.oneCell']) h
theorem load_kst (hgd : o.guard = none) (x : Operand) (ho : o.op = .load 49 x) (g : Nat) (hx : a.eval x = .pointer (some ⟨g, 0, none⟩)) (s : KSt)
    (hg : w.heap[g]? = some (.cells #[.int .i64 s.kind, .int .i64 s.a, .int .i64 s.b, .string s.key, .int .i32 s.v] 49)) (h : wpList Try.prog ops Q rest (a.put o.dst (.agg #[.int .i64 s.kind, .int .i64 s.a, .int .i64 s.b, .string s.key, .int .i32 s.v])) w) : wpList Try.prog ops Q (o :: rest) a w :=
  wpList_load_row hgd _ x ho g hx _ _ (0, 0) _ hg Try.underlying49 rfl info_kst h
end
theorem rows_lt {α : Type} {C : Cl α} {w : World} {p : Option Addr} {l : List α} (h : RowsAt C w p l) {b off : Nat} (e : p = some ⟨b, off, none⟩) (h0 : 0 < l.length) : b < w.heap.size := by
  obtain ⟨b', off', e', hb, _⟩ := h.pos 0 h0
  rw [e] at e'
  cases e'
  exact hb
theorem KX.grow' {SR : SRT} {B0 bk bs : Nat} {t : List Int} {wid : Int} {m m' : Nat} {D : List Nd} {A : List (Int × List It)} {w : World} {own : Ghost} (h : KX SR B0 bk bs t wid m D A w own) (hm : m ≤ m') : KX SR B0 bk bs t wid m' D A w own := by
  obtain ⟨vt, vs, vl, C, PK, g⟩ := h
  exact ⟨vt, vs, vl, C, PK, g.mono hm⟩
/-- A look that was made and laid into a variable. -/
theorem look_done {SR : SRT} (R : PR SR) {t : List Int} {wid : Int} {w w3 w4 : World} {bk bs m : Nat} {D : List Nd} {A : List (Int × List It)} {own : Ghost} (h : KO SR t wid w bk bs m D A w3 own) {vi vm va : Sl} {S : List Sl} (hl : ∀ own' : Ghost, (∀ k, w3.heap.size ≤ k → own' k = .arg) → LkAt w4 own' t D vi vm va S) (hb : Below w3.heap.size w3 w4) (z : Obj) {w5 : World} (hw : w5 = (w4.alloc z).setRow w4.heap.size #[vi.val, vm.val, va.val, .bool true]) (hz : ∃ c, z = .cells c 46) :
    Below w3.heap.size w3 w5 ∧ KO SR t wid w bk bs m D A w5 (argO w3 own) ∧ LkAt w5 (argO w3 own) t D vi vm va S ∧ PinB w5 (argO w3 own) w4.heap.size (.cells #[vi.val, vm.val, va.val, .bool true] 46) := by
  have hs := hb.size
  have hb45 : Below w4.heap.size w4 w5 := by rw [hw]; exact below_setRow _ (below_alloc _ _) (Nat.le_refl _)
  have hb5 := bnext hb hb45
  refine ⟨hb5, h.pin R hb5, (hl _ fun k hk => argO_new hk).below hb45, ?_, argO_new (by omega)⟩
  obtain ⟨c, rfl⟩ := hz
  rw [hw]; exact setRow_blk (heap_alloc_new _ _)
set_option maxHeartbeats 16000000 in
theorem kStored_any (SR : SRT) (P : PA SR) (raw : List Int) (hf : ∀ x ∈ raw, fitsI x) (p : Option Addr) (n c : Nat) (wd : Int) (hwd : fitsI wd) (ps : Option Addr) (sn sc : Nat) (steps : List KSt) (w : World) (hn : raw.length = n) (hr : RowsAt clInt w p raw) (hm : n ≤ 1048576) (hs : steps.length = sn) (hrs : RowsAt clKs w ps steps) (hsm : sn ≤ 1048576) (hok : ∀ x ∈ steps, x.Ok)
    (nd : Int) (hnd : fitsI nd) (ps2 : Option Addr) (sn2 sc2 : Nat) (steps2 : List KSt) (hs2 : steps2.length = sn2) (hrs2 : RowsAt clKs w ps2 steps2) (hsm2 : sn2 ≤ 1048576) (hok2 : ∀ x ∈ steps2, x.Ok) :
    Calls Try.prog 4 #[.slice p n c, .int .i64 wd, .slice ps sn sc, .int .i64 nd, .slice ps2 sn2 sc2] w fun e w' => e = .returned (.bool true) ∧ Below w.heap.size w w' := by
  have HP : Hid (PA SR) := P
  have H : Hid ((∀ x ∈ raw, fitsI x) ∧ RowsAt clInt w p raw ∧ RowsAt clKs w ps steps ∧ ∀ x ∈ steps, x.Ok) := ⟨hf, hr, hrs, hok⟩
  have H2 : Hid (RowsAt clKs w ps2 steps2 ∧ ∀ x ∈ steps2, x.Ok) := ⟨hrs2, hok2⟩
  clear P hf hr hrs hok hrs2 hok2
  obtain ⟨wid, hwid⟩ : ∃ wid, wid = widK wd := ⟨_, rfl⟩
  have HWID : Hid (wid = widK wd) := hwid
  obtain ⟨t, ht⟩ : ∃ t, t = trK raw := ⟨_, rfl⟩
  have HTT : Hid (t = trK raw) := ht
  have HT : Hid (Tree t) := by unfold Hid; rw [ht]; exact trK_tree raw
  have h8 := HT.out.le
  obtain ⟨N, hN⟩ : ∃ N, t.length = N := ⟨_, rfl⟩
  have HN : Hid (t.length = N) := hN
  have hN1 : 1 ≤ N := by have := HT.out.pos; omega
  have hpn := pk_bd nd N (by omega)
  obtain ⟨nk, hnk⟩ : ∃ nk : Nat, pk nd N = nk := ⟨(pk nd N).toNat, by omega⟩
  have HPN : Hid (pk nd N = nk) := hnk
  have hnkN : nk < N := by omega
  clear hwid ht hpn hnk
  go_enter Try.func4, Try.ntmps4
  go_upto_region 8 with (first | (go_at_call 6; refine (kbegan_any SR HP.out.R raw H.out.1 p n c wd hwd w hn H.out.2.1 (by omega)).mono ?_; rintro e w1 ⟨hb1, bk, bs, own1, rfl, hk1, ha1⟩; rw [← HTT.out, ← HWID.out] at hk1; obtain ⟨tp, tc, c0, c1, c2, _⟩ := hk1.cells; rw [hN] at c1; have HK : Hid (KO SR t wid w bk bs 0 (List.replicate t.length Nd.zero) [] w1 own1) := ⟨hk1, ha1, hb1⟩; clear hk1 ha1 hb1 c0 c2) | (go_at_call 10; refine (pick_any nd N _ hnd.1 hnd.2 (by omega) (by omega)).mono ?_; rintro e wA ⟨rfl, hwA⟩; have hwA := hwA.symm; subst hwA; rw [HPN.out]; clear c1) | (go_at_call 7; refine (kplays_any SR HP.out w1 own1 w.heap.size bk bs t wid 0 _ [] HK.out.x ps sn sc steps hs (H.out.2.2.1.below HK.out.b) (by omega) H.out.2.2.2 (fun h0 b off e => HK.out.a b (rows_lt H.out.2.2.1 e (by omega)))).mono ?_; rintro e w2 ⟨rfl, D0, A0, hkn2⟩; obtain ⟨own2, hko2, _, _⟩ := HK.out.next hkn2; have HK2 : Hid (KO SR t wid w bk bs (0 + sn) D0 A0 w2 own2) := hko2; clear hkn2 hko2) | (go_at_call 13; refine (ksync_any SR HP.out.R HP.out.S w2 own2 w.heap.size bk bs t wid (0 + sn) D0 A0 HK2.out.x (by omega) nk (by omega)).mono ?_; rintro e w3 ⟨rfl, hkn3⟩; obtain ⟨own3, hko3, _, _⟩ := HK2.out.next hkn3; have HK3 : Hid (KO SR t wid w bk bs (0 + sn) (synD t D0 nk) A0 w3 own3) := hko3; clear hkn3 hko3) | (go_at_call 14; refine (klook_any SR HP.out.R w3 own3 w.heap.size bk bs t wid (0 + sn) (synD t D0 nk) A0 HK3.out.x (by omega)).mono ?_; rintro e w4 ⟨vi, vm, va, S, rfl, hl4, hb4⟩; obtain ⟨ip, il, ic⟩ := vi; obtain ⟨mp, ml, mc⟩ := vm; obtain ⟨ap, al, ac⟩ := va; have HL4 : Hid ((∀ own' : Ghost, (∀ k, w3.heap.size ≤ k → own' k = .arg) → LkAt w4 own' t (synD t D0 nk) ⟨ip, il, ic⟩ ⟨mp, ml, mc⟩ ⟨ap, al, ac⟩ S) ∧ Below w3.heap.size w3 w4) := ⟨hl4, hb4⟩; clear hl4 hb4; dsimp only [Sl.val]) | (refine alloc_lk rfl rfl ?_) | (refine store_lk_new rfl _ _ rfl ⟨ip, il, ic⟩ ⟨mp, ml, mc⟩ ⟨ap, al, ac⟩ true w4 #[.slice none 0 0, .slice none 0 0, .slice none 0 0, .bool false] rfl rfl rfl rfl ?_))
  rename World => w4
  dsimp only [Sl.val]
  obtain ⟨w5, hw5⟩ : ∃ w5, w5 = (w4.alloc (.cells #[.slice none 0 0, .slice none 0 0, .slice none 0 0, .bool false] 46)).setRow w4.heap.size #[.slice ip il ic, .slice mp ml mc, .slice ap al ac, .bool true] := ⟨_, rfl⟩
  have HL5 : Hid (Below w3.heap.size w3 w5 ∧ KO SR t wid w bk bs (0 + sn) (synD t D0 nk) A0 w5 (argO w3 own3) ∧ LkAt w5 (argO w3 own3) t (synD t D0 nk) ⟨ip, il, ic⟩ ⟨mp, ml, mc⟩ ⟨ap, al, ac⟩ S ∧ PinB w5 (argO w3 own3) w4.heap.size (.cells #[.slice ip il ic, .slice mp ml mc, .slice ap al ac, .bool true] 46)) := look_done HP.out.R HK3.out HL4.out.1 HL4.out.2 _ hw5 ⟨_, rfl⟩
  have hld0 : D0.length = N := by rw [← hN]; exact HK2.out.x.inv.ld
  obtain ⟨own5, hown5⟩ : ∃ own5, own5 = argO w3 own3 := ⟨_, rfl⟩
  rw [← hown5] at HL5
  obtain ⟨D1, hD1⟩ : ∃ D1, D1 = synD t D0 nk := ⟨_, rfl⟩
  have HD1 : Hid (D1 = synD t D0 nk ∧ D0.length = N) := ⟨hD1, hld0⟩
  rw [← hD1] at HL5
  have HGD1 : Hid (∀ k : Nat, k < t.length → Good (lvAt t D1 k)) := fun k hk => by
    have hx := HL5.out.2.1.x
    exact lvAt_good hx.inv h8 (by omega) hx.di hx.ev k hk
  rw [← hw5]
  clear hw5 HL4 HK HK2 HK3 hown5 hD1 hld0
  try dsimp only
  try simp only [Act.put, List.getElem_toArray, List.getElem_cons_succ, List.getElem_cons_zero, List.setIfInBounds_toArray, List.set_cons_zero, List.set_cons_succ]
  go_wp2
  go_loopw [16] (fun i wr => ∃ (k : Nat) (own' : Ghost) (D' : List Nd) (A' : List (Int × List It)), k ≤ sn2 ∧ i = .int .i64 k ∧ KO SR t wid w bk bs (sn + k) D' A' wr own' ∧ Kst D1 D' ∧ LkAt wr own' t D1 ⟨ip, il, ic⟩ ⟨mp, ml, mc⟩ ⟨ap, al, ac⟩ S ∧ PinB wr own' w4.heap.size (.cells #[.slice ip il ic, .slice mp ml mc, .slice ap al ac, .bool true] 46)) (fun i _ => sn2 - (intOf i).toNat)
  case atStart => exact ⟨0, own5, D1, A0, by omega, rfl, by have := HL5.out.2.1; simpa using this, Kst.refl _, HL5.out.2.2.1, HL5.out.2.2.2⟩
  case round =>
    obtain ⟨k, own', D', A', hk, rfl, hko, hks, hlk, hpb⟩ := hrel
    have HI : Hid (KO SR t wid w bk bs (sn + k) D' A' wr own' ∧ Kst D1 D' ∧ LkAt wr own' t D1 ⟨ip, il, ic⟩ ⟨mp, ml, mc⟩ ⟨ap, al, ac⟩ S ∧ PinB wr own' w4.heap.size (.cells #[.slice ip il ic, .slice mp ml mc, .slice ap al ac, .bool true] 46)) := ⟨hko, hks, hlk, hpb⟩
    clear hko hks hlk hpb
    by_cases hlt : k < sn2
    · obtain ⟨gp, op, rfl, hgp, hrg⟩ := H2.out.1.pos k (by omega)
      obtain ⟨x, hx⟩ : ∃ x, steps2[k]? = some x := ⟨_, List.getElem?_eq_getElem (by omega)⟩
      have HRG : Hid (wr.rangeAt gp (op + k * 5) (clKs.cells x)) := range_below HI.out.1.b hgp (hrg k x hx)
      have HO : Hid x.Ok := H2.out.2 x (List.mem_of_getElem? hx)
      have hfk := HO.out.kind
      clear hx hrg
      obtain ⟨kd, hkd⟩ : ∃ kd, pk x.kind 8 = kd := ⟨_, rfl⟩
      have HKD : Hid (pk x.kind 8 = kd) := hkd
      clear hkd
      go_upto_region 14 with (first | (refine load_kst_mid rfl _ rfl _ _ rfl x (by exact HRG.out) ?_) | (refine alloc_kst rfl rfl ?_) | (refine store_kst_new rfl _ _ rfl x wr _ rfl rfl rfl rfl ?_))
      obtain ⟨w6, hw6⟩ : ∃ w6, w6 = wr.alloc (.cells #[.int .i64 x.kind, .int .i64 x.a, .int .i64 x.b, .string x.key, .int .i32 x.v] 49) := ⟨_, rfl⟩
      have HB6 : Hid (Below wr.heap.size wr w6) := by unfold Hid; rw [hw6]; exact below_alloc _ _
      have G6 : Hid (w6.heap[wr.heap.size]? = some (.cells #[.int .i64 x.kind, .int .i64 x.a, .int .i64 x.b, .string x.key, .int .i32 x.v] 49)) := by unfold Hid; rw [hw6]; exact heap_alloc_new _ _
      have o0 : w6.cell? ⟨wr.heap.size, 0, none⟩ = some (.int .i64 x.kind) := by rw [cell_of_row _ _ _ _ _ _ G6.out]; rfl
      have HI6 : Hid (KO SR t wid w bk bs (sn + k) D' A' w6 (argO wr own') ∧ LkAt w6 (argO wr own') t D1 ⟨ip, il, ic⟩ ⟨mp, ml, mc⟩ ⟨ap, al, ac⟩ S ∧ PinB w6 (argO wr own') w4.heap.size (.cells #[.slice ip il ic, .slice mp ml mc, .slice ap al ac, .bool true] 46)) := ⟨HI.out.1.pin HP.out.R HB6.out, HI.out.2.2.1.pin HB6.out, HI.out.2.2.2.pin HB6.out⟩
      rw [← hw6]
      clear hw6
      try dsimp only
      try simp only [Act.put, List.getElem_toArray, List.getElem_cons_succ, List.getElem_cons_zero, List.setIfInBounds_toArray, List.set_cons_zero, List.set_cons_succ]
      by_cases h2 : kd = 2
      · subst h2
        go_wp2_with (go_at_call 10; refine (pick_any x.kind 8 _ hfk.1 hfk.2 (by omega) (by omega)).mono ?_; rintro e wA ⟨rfl, hwA⟩; have hwA := hwA.symm; subst hwA; rw [HKD.out])
        go_roundw
        case rel => exact ⟨k + 1, _, D', A', by omega, by go_num, ⟨HI6.out.1.x.grow' (by omega), HI6.out.1.a, HI6.out.1.b⟩, HI.out.2.1, HI6.out.2.1, HI6.out.2.2⟩
        case measure => simp [intOf]; omega
      · by_cases h3 : kd = 3
        · subst h3
          go_wp2_with (go_at_call 10; refine (pick_any x.kind 8 _ hfk.1 hfk.2 (by omega) (by omega)).mono ?_; rintro e wA ⟨rfl, hwA⟩; have hwA := hwA.symm; subst hwA; rw [HKD.out])
          go_roundw
          case rel => exact ⟨k + 1, _, D', A', by omega, by go_num, ⟨HI6.out.1.x.grow' (by omega), HI6.out.1.a, HI6.out.1.b⟩, HI.out.2.1, HI6.out.2.1, HI6.out.2.2⟩
          case measure => simp [intOf]; omega
        · have hb2 : (kd == 2) = false := by simp [h2]
          have hb3 : (kd == 3) = false := by simp [h3]
          go_wp2_with (first | (go_at_call 10; refine (pick_any x.kind 8 _ hfk.1 hfk.2 (by omega) (by omega)).mono ?_; rintro e wA ⟨rfl, hwA⟩; have hwA := hwA.symm; subst hwA; rw [HKD.out]) | (refine load_kst rfl _ rfl _ rfl x (by exact G6.out) ?_) | (go_at_call 15; refine (kstep_any SR HP.out _ (argO wr own') w.heap.size bk bs t wid (sn + k) D' A' HI6.out.1.x (by omega) x.kind x.a x.b x.key x.v HO.out.kind HO.out.a HO.out.b HO.out.key HO.out.v0 HO.out.v1).mono ?_; rintro e w7 ⟨rfl, D7, A7, hkn7, hks7⟩; rw [HKD.out] at hks7; have HI7 : Hid (∃ own7, KO SR t wid w bk bs (sn + k + 1) D7 A7 w7 own7 ∧ Kst D1 D7 ∧ LkAt w7 own7 t D1 ⟨ip, il, ic⟩ ⟨mp, ml, mc⟩ ⟨ap, al, ac⟩ S ∧ PinB w7 own7 w4.heap.size (.cells #[.slice ip il ic, .slice mp ml mc, .slice ap al ac, .bool true] 46)) := (by obtain ⟨own7, a1, a2, a3⟩ := HI6.out.1.next hkn7; exact ⟨own7, a1, HI.out.2.1.trans (hks7 h2 h3), HI6.out.2.1.next a2 a3, HI6.out.2.2.next a2 a3⟩); clear hkn7 hks7))
          go_roundw
          case rel =>
            obtain ⟨own7, a1, a2, a3, a4⟩ := HI7.out
            exact ⟨k + 1, own7, D7, A7, by omega, by go_num, a1, a2, a3, a4⟩
          case measure => simp [intOf]; omega
    · obtain rfl : sn2 = k := by omega
      go_upto_if 76 with fail
      go_cut [13] (fun v13 wx => ∃ own2, KO SR t wid w bk bs (sn + sn2) D' A' wx own2 ∧ LkAt wx own2 t D1 ⟨ip, il, ic⟩ ⟨mp, ml, mc⟩ ⟨ap, al, ac⟩ S ∧ PinB wx own2 w4.heap.size (.cells #[.slice ip il ic, .slice mp ml mc, .slice ap al ac, .bool true] 46))
      case first =>
        by_cases hz : nk = 0
        · have hd : decide ((0 : Int) < (nk : Int)) = false := by simp [hz]
          go_wp2
          go_meet
          exact ⟨own', HI.out.1, HI.out.2.2.1, HI.out.2.2.2⟩
        · have hd : decide ((0 : Int) < (nk : Int)) = true := by simp; omega
          obtain ⟨tp1, tc1, c0, _⟩ := HI.out.1.x.cells
          have HE : Hid (sndE t nk 0 19 = 0) := by unfold Hid sndE; rw [if_pos (by simp [isNd]; omega), if_neg (by omega), if_pos (by decide)]
          have HF : Hid (sndF t nk 0 19 = nk) := by unfold Hid sndF; rw [if_pos HE.out]
          have HSL : Hid (sndL t D' nk 0 19 = lvAt t D1 nk) := by
            have hg := HGD1.out nk (by omega)
            unfold Hid
            have h1 := HD1.out.1
            rw [h1] at hg ⊢
            exact (stored_back (by omega) (by rw [hN]; exact HD1.out.2) (by rw [← h1]; exact HI.out.2.1)).2.2 hz hg
          go_upto_region 21 with (first | (go_at_call 16; refine (HP.out.D.send wr own' w.heap.size bs t wid D' HI.out.1.x.st (HI.out.1.x.di.mono' (by omega)) nk 0 19 ⟨by omega, by omega⟩ ⟨by omega, by omega⟩ ⟨by omega, by omega⟩).mono ?_; rintro e w6 ⟨v1, rfl, ho1, hb1⟩; rw [HE.out, HF.out]; rw [HSL.out] at ho1; obtain ⟨s1, rfl⟩ : ∃ s1 : Sl, v1 = .slice s1.p s1.n s1.c := (by obtain ⟨p, c, e, _⟩ := ho1.form; exact ⟨⟨p, _, c⟩, e⟩); have HB1 : Hid (Below wr.heap.size wr w6) := hb1; have HO1 : Hid (Own clIt w6 wr.heap.size 80 (.slice s1.p s1.n s1.c) (lvAt t D1 nk)) := ho1; clear ho1 hb1 c0) | (refine alloc_pk rfl rfl ?_) | (refine store_pk_new rfl _ _ rfl _ s1 w6 #[.int .i64 0, .slice none 0 0] rfl rfl rfl rfl ?_))
          rename World => w6
          obtain ⟨xp, xn, xc⟩ := s1
          obtain ⟨w7, hw7⟩ : ∃ w7, w7 = (w6.alloc (.cells #[.int .i64 0, .slice none 0 0] 34)).setRow w6.heap.size #[.int .i64 nk, .slice xp xn xc] := ⟨_, rfl⟩
          have HB67 : Hid (Below w6.heap.size w6 w7) := by unfold Hid; rw [hw7]; exact below_setRow _ (below_alloc _ _) (Nat.le_refl _)
          have HB7 : Hid (Below wr.heap.size wr w7) := bnext HB1.out HB67.out
          have GP : w7.heap[w6.heap.size]? = some (.cells #[.int .i64 nk, .slice xp xn xc] 34) := by rw [hw7]; exact setRow_blk (heap_alloc_new _ _)
          have g0 : w7.cell? ⟨w6.heap.size, 0, none⟩ = some (.int .i64 nk) := by rw [cell_of_row _ _ _ _ _ _ GP]; rfl
          have g1 : w7.cell? ⟨w6.heap.size, 1, none⟩ = some (.slice xp xn xc) := by rw [cell_of_row _ _ _ _ _ _ GP]; rfl
          have hrow := (Own.sl (s := ⟨xp, xn, xc⟩) HO1.out)
          have l0 : w7.cell? ⟨w4.heap.size, 0, none⟩ = some (.slice ip il ic) := by
            have := keep HB7.out HI.out.2.2.2.1
            rw [cell_of_row _ _ _ _ _ _ this]; rfl
          obtain ⟨s, hs⟩ : ∃ s, S[nk]? = some s := ⟨_, List.getElem?_eq_getElem (by rw [HI.out.2.2.1.ls]; omega)⟩
          obtain ⟨gi, oi, rfl, hgi, ci⟩ := HI.out.2.2.1.ri.sl_at HB7.out nk s hs
          have hil : il = N := HI.out.2.2.1.ni.trans hN
          obtain ⟨hi1, hi2⟩ := HI.out.2.2.1.it nk s hs
          obtain ⟨sp, sl, sc'⟩ := s
          obtain rfl : xn = sl := hrow.1.symm.trans hi1
          have HRW : Hid ((lvAt t D1 nk).length = xn ∧ RowsAt clIt w7 xp (lvAt t D1 nk) ∧ RowsAt clIt w7 sp (lvAt t D1 nk) ∧ AllOkI (lvAt t D1 nk)) := ⟨hi1, hrow.2.below HB67.out, hi2.below HB7.out, (HGD1.out nk (by omega)).ok⟩
          have hx160 : xn ≤ 160 := by have := (HGD1.out nk (by omega)).len; have := HRW.out.1; omega
          have q0 : (0 : Int) ≤ (nk : Int) := by omega
          have q1 : (nk : Int) < (il : Int) := by omega
          rw [← hw7]
          clear hw7 GP hs hi1 hi2 hrow HO1 hil
          try dsimp only
          try simp only [Act.put, List.getElem_toArray, List.getElem_cons_succ, List.getElem_cons_zero, List.setIfInBounds_toArray, List.set_cons_zero, List.set_cons_succ]
          have hT0 : (fun w' : World => w'.cell? ⟨w6.heap.size, 1, none⟩ = some (.slice xp xn xc) ∧ w'.cell? ⟨w4.heap.size, 0, none⟩ = some (.slice (some ⟨gi, oi, none⟩) il ic) ∧ w'.cell? ⟨gi, oi + nk, none⟩ = some (.slice sp xn sc')) w7.drew := ⟨g1, l0, ci⟩
          refine wp_region_held (S := fun w' : World => w'.cell? ⟨w6.heap.size, 1, none⟩ = some (.slice xp xn xc) ∧ w'.cell? ⟨w4.heap.size, 0, none⟩ = some (.slice (some ⟨gi, oi, none⟩) il ic) ∧ w'.cell? ⟨gi, oi + nk, none⟩ = some (.slice sp xn sc')) mixed ?_
          refine wpAnyH_take (i := 0) (v := (.pointer (some ⟨w6.heap.size, 1, none⟩))) rfl (by kernel_rfl) (by kernel_rfl) (by kernel_rfl) (fun _ _ _ h => h) (Or.inl ⟨by rfl, fun wx hx => by go_simp⟩) hT0 ?_
          try dsimp only
          try simp only [Act.put, List.getElem_toArray, List.getElem_cons_succ, List.getElem_cons_zero, List.setIfInBounds_toArray, List.set_cons_zero, List.set_cons_succ]
          refine wpAnyH_take (i := 1) (v := (.slice xp xn xc)) rfl (by kernel_rfl) (by kernel_rfl) (by kernel_rfl) (fun _ _ _ h => h) (Or.inl ⟨by rfl, fun wx hx => by have hx1 := hx.1; go_simp⟩) hT0 ?_
          try dsimp only
          try simp only [Act.put, List.getElem_toArray, List.getElem_cons_succ, List.getElem_cons_zero, List.setIfInBounds_toArray, List.set_cons_zero, List.set_cons_succ]
          refine wpAnyH_take (i := 2) (v := (.pointer (some ⟨w4.heap.size, 0, none⟩))) rfl (by kernel_rfl) (by kernel_rfl) (by kernel_rfl) (fun _ _ _ h => h) (Or.inl ⟨by rfl, fun wx hx => by go_simp⟩) hT0 ?_
          try dsimp only
          try simp only [Act.put, List.getElem_toArray, List.getElem_cons_succ, List.getElem_cons_zero, List.setIfInBounds_toArray, List.set_cons_zero, List.set_cons_succ]
          refine wpAnyH_take (i := 3) (v := (.slice (some ⟨gi, oi, none⟩) il ic)) rfl (by kernel_rfl) (by kernel_rfl) (by kernel_rfl) (fun _ _ _ h => h) (Or.inl ⟨by rfl, fun wx hx => by have hx1 := hx.2.1; go_simp⟩) hT0 ?_
          try dsimp only
          try simp only [Act.put, List.getElem_toArray, List.getElem_cons_succ, List.getElem_cons_zero, List.setIfInBounds_toArray, List.set_cons_zero, List.set_cons_succ]
          refine wpAnyH_take (i := 4) (v := (.int .i64 nk)) rfl (by kernel_rfl) (by kernel_rfl) (by kernel_rfl) (fun _ _ _ h => h) (Or.inl ⟨by rfl, fun wx hx => by go_simp⟩) hT0 ?_
          try dsimp only
          try simp only [Act.put, List.getElem_toArray, List.getElem_cons_succ, List.getElem_cons_zero, List.setIfInBounds_toArray, List.set_cons_zero, List.set_cons_succ]
          refine wpAnyH_take (i := 5) (v := (.pointer (some ⟨gi, oi + nk, none⟩))) rfl (by kernel_rfl) (by kernel_rfl) (by kernel_rfl) (fun _ _ _ h => h) (Or.inl ⟨by rfl, fun wx hx => by go_simp⟩) hT0 ?_
          try dsimp only
          try simp only [Act.put, List.getElem_toArray, List.getElem_cons_succ, List.getElem_cons_zero, List.setIfInBounds_toArray, List.set_cons_zero, List.set_cons_succ]
          refine wpAnyH_take (i := 6) (v := (.slice sp xn sc')) rfl (by kernel_rfl) (by kernel_rfl) (by kernel_rfl) (fun _ _ _ h => h) (Or.inl ⟨by rfl, fun wx hx => by have hx1 := hx.2.2; go_simp⟩) hT0 ?_
          try dsimp only
          try simp only [Act.put, List.getElem_toArray, List.getElem_cons_succ, List.getElem_cons_zero, List.setIfInBounds_toArray, List.set_cons_zero, List.set_cons_succ]
          refine wpAnyH_all (rs := [7]) (by kernel_rfl) (by simp) ?_
          intro jj hjj
          simp only [List.mem_cons, List.not_mem_nil, or_false] at hjj
          subst hjj
          refine wpOp_of_wp rfl rfl ?_
          go_simp
          refine (ksame_any (lvAt t D1 nk) HRW.out.2.2.2 xp sp xn xc sc' w7.drew HRW.out.1 (HRW.out.2.1.below below_drew) (HRW.out.2.2.1.below below_drew) (by omega)).mono ?_
          rintro e w8 ⟨rfl, hb8⟩
          replace hb8 : Below w7.heap.size w7 w8 := bnext below_drew hb8
          have hT1 : (fun w' : World => w'.cell? ⟨w6.heap.size, 1, none⟩ = some (.slice xp xn xc) ∧ w'.cell? ⟨w4.heap.size, 0, none⟩ = some (.slice (some ⟨gi, oi, none⟩) il ic) ∧ w'.cell? ⟨gi, oi + nk, none⟩ = some (.slice sp xn sc')) w8 := ⟨cell_keep hb8 g1, cell_keep hb8 l0, cell_keep hb8 ci⟩
          refine ⟨hT1, ?_⟩
          try dsimp only
          try simp only [Act.put, List.getElem_toArray, List.getElem_cons_succ, List.getElem_cons_zero, List.setIfInBounds_toArray, List.set_cons_zero, List.set_cons_succ]
          refine wpAnyH_take (i := 8) (v := (.bool true)) rfl (by kernel_rfl) (by kernel_rfl) (by kernel_rfl) (fun _ _ _ h => h) (Or.inl ⟨by rfl, fun wx hx => by go_simp⟩) hT1 ?_
          try dsimp only
          try simp only [Act.put, List.getElem_toArray, List.getElem_cons_succ, List.getElem_cons_zero, List.setIfInBounds_toArray, List.set_cons_zero, List.set_cons_succ]
          refine wpAnyH_done (by kernel_rfl) ?_ _
          have HB8 : Hid (Below wr.heap.size wr w8) := bnext HB7.out hb8
          replace g0 := cell_keep hb8 g0
          clear hT0 hT1 g1 l0 ci hb8
          go_wp2
          go_meet
          exact ⟨_, HI.out.1.pin HP.out.R HB8.out, HI.out.2.2.1.pin HB8.out, HI.out.2.2.2.pin HB8.out⟩
      case rest =>
        obtain ⟨ownc, hkoc, hlkc, hpbc⟩ := hcut
        have HIC : Hid (KO SR t wid w bk bs (sn + sn2) D' A' wc ownc ∧ LkAt wc ownc t D1 ⟨ip, il, ic⟩ ⟨mp, ml, mc⟩ ⟨ap, al, ac⟩ S ∧ PinB wc ownc w4.heap.size (.cells #[.slice ip il ic, .slice mp ml mc, .slice ap al ac, .bool true] 46)) := ⟨hkoc, hlkc, hpbc⟩
        have HKS : Hid (Kst D1 D') := HI.out.2.1
        clear hkoc hlkc hpbc HI
        have hmm : sn + sn2 < 100000000 := by omega
        go_upto_region 25 with (first | (go_at_call 14; refine (klook_any SR HP.out.R wc ownc w.heap.size bk bs t wid (sn + sn2) D' A' HIC.out.1.x hmm).mono ?_; rintro e w6 ⟨vi, vm, va, S2, rfl, hl6, hb6⟩; obtain ⟨ip2, il2, ic2⟩ := vi; obtain ⟨mp2, ml2, mc2⟩ := vm; obtain ⟨ap2, al2, ac2⟩ := va; have HL6 : Hid ((∀ own' : Ghost, (∀ k, wc.heap.size ≤ k → own' k = .arg) → LkAt w6 own' t D' ⟨ip2, il2, ic2⟩ ⟨mp2, ml2, mc2⟩ ⟨ap2, al2, ac2⟩ S2) ∧ Below wc.heap.size wc w6) := ⟨hl6, hb6⟩; clear hl6 hb6; dsimp only [Sl.val]) | (refine alloc_lk rfl rfl ?_) | (refine store_lk_new rfl _ _ rfl ⟨ip2, il2, ic2⟩ ⟨mp2, ml2, mc2⟩ ⟨ap2, al2, ac2⟩ true w6 #[.slice none 0 0, .slice none 0 0, .slice none 0 0, .bool false] rfl rfl rfl rfl ?_))
        rename World => w6
        dsimp only [Sl.val]
        obtain ⟨w7, hw7⟩ : ∃ w7, w7 = (w6.alloc (.cells #[.slice none 0 0, .slice none 0 0, .slice none 0 0, .bool false] 46)).setRow w6.heap.size #[.slice ip2 il2 ic2, .slice mp2 ml2 mc2, .slice ap2 al2 ac2, .bool true] := ⟨_, rfl⟩
        have HL7 : Hid ((KO SR t wid w bk bs (sn + sn2) D' A' w7 (argO wc ownc) ∧ LkAt w7 (argO wc ownc) t D' ⟨ip2, il2, ic2⟩ ⟨mp2, ml2, mc2⟩ ⟨ap2, al2, ac2⟩ S2 ∧ PinB w7 (argO wc ownc) w6.heap.size (.cells #[.slice ip2 il2 ic2, .slice mp2 ml2 mc2, .slice ap2 al2 ac2, .bool true] 46)) ∧ LkAt w7 (argO wc ownc) t D1 ⟨ip, il, ic⟩ ⟨mp, ml, mc⟩ ⟨ap, al, ac⟩ S ∧ PinB w7 (argO wc ownc) w4.heap.size (.cells #[.slice ip il ic, .slice mp ml mc, .slice ap al ac, .bool true] 46)) := by
          obtain ⟨a1, a2, a3, a4⟩ := look_done HP.out.R HIC.out.1 HL6.out.1 HL6.out.2 _ hw7 ⟨_, rfl⟩
          exact ⟨⟨a2, a3, a4⟩, HIC.out.2.1.pin a1, HIC.out.2.2.pin a1⟩
        obtain ⟨own7, hown7⟩ : ∃ own7, own7 = argO wc ownc := ⟨_, rfl⟩
        rw [← hown7] at HL7
        rw [← hw7]
        clear hw7 hown7 HL6 HIC
        try dsimp only
        try simp only [Act.put, List.getElem_toArray, List.getElem_cons_succ, List.getElem_cons_zero, List.setIfInBounds_toArray, List.set_cons_zero, List.set_cons_succ]
        obtain ⟨D3, hD3⟩ : ∃ D3, D3 = craD t D' nk := ⟨_, rfl⟩
        have HD3 : Hid (D3 = craD t D' nk) := hD3
        clear hD3
        go_upto_region 26 with (go_at_call 17; refine (kcrash_any SR HP.out.R HP.out.S w7 own7 w.heap.size bk bs t wid (sn + sn2) D' A' HL7.out.1.1.x hmm nk (by omega)).mono ?_; rintro e w8 ⟨rfl, hkn8⟩; rw [← HD3.out] at hkn8; have HL8 : Hid (∃ own8, KO SR t wid w bk bs (sn + sn2) D3 A' w8 own8 ∧ (LkAt w8 own8 t D' ⟨ip2, il2, ic2⟩ ⟨mp2, ml2, mc2⟩ ⟨ap2, al2, ac2⟩ S2 ∧ PinB w8 own8 w6.heap.size (.cells #[.slice ip2 il2 ic2, .slice mp2 ml2 mc2, .slice ap2 al2 ac2, .bool true] 46)) ∧ LkAt w8 own8 t D1 ⟨ip, il, ic⟩ ⟨mp, ml, mc⟩ ⟨ap, al, ac⟩ S ∧ PinB w8 own8 w4.heap.size (.cells #[.slice ip il ic, .slice mp ml mc, .slice ap al ac, .bool true] 46)) := (by obtain ⟨own8, a1, a2, a3⟩ := HL7.out.1.1.next hkn8; exact ⟨own8, a1, ⟨HL7.out.1.2.1.next a2 a3, HL7.out.1.2.2.next a2 a3⟩, HL7.out.2.1.next a2 a3, HL7.out.2.2.next a2 a3⟩); clear hkn8)
        rename World => w8
        obtain ⟨own8, hk8⟩ := HL8.out
        have HK8 : Hid (KO SR t wid w bk bs (sn + sn2) D3 A' w8 own8 ∧ (LkAt w8 own8 t D' ⟨ip2, il2, ic2⟩ ⟨mp2, ml2, mc2⟩ ⟨ap2, al2, ac2⟩ S2 ∧ PinB w8 own8 w6.heap.size (.cells #[.slice ip2 il2 ic2, .slice mp2 ml2 mc2, .slice ap2 al2 ac2, .bool true] 46)) ∧ LkAt w8 own8 t D1 ⟨ip, il, ic⟩ ⟨mp, ml, mc⟩ ⟨ap, al, ac⟩ S ∧ PinB w8 own8 w4.heap.size (.cells #[.slice ip il ic, .slice mp ml mc, .slice ap al ac, .bool true] 46)) := hk8
        have HGD2 : Hid (∀ k : Nat, k < t.length → AllOkI (lvAt t D' k) ∧ (lvAt t D' k).length ≤ 160) := fun k hk => by
          have hx := HL7.out.1.1.x
          have := lvAt_good hx.inv h8 (by omega) hx.di hx.ev k hk
          exact ⟨this.ok, this.len⟩
        clear hk8 HL8 HL7
        go_upto_region 27 with (first | (go_at_call 14; refine (klook_any SR HP.out.R w8 own8 w.heap.size bk bs t wid (sn + sn2) D3 A' HK8.out.1.x hmm).mono ?_; rintro e w9 ⟨vi, vm, va, S3, rfl, hl9, hb9⟩; obtain ⟨ip3, il3, ic3⟩ := vi; obtain ⟨mp3, ml3, mc3⟩ := vm; obtain ⟨ap3, al3, ac3⟩ := va; have HL9 : Hid ((∀ own' : Ghost, (∀ k, w8.heap.size ≤ k → own' k = .arg) → LkAt w9 own' t D3 ⟨ip3, il3, ic3⟩ ⟨mp3, ml3, mc3⟩ ⟨ap3, al3, ac3⟩ S3) ∧ Below w8.heap.size w8 w9) := ⟨hl9, hb9⟩; clear hl9 hb9; dsimp only [Sl.val]) | (refine alloc_lk rfl rfl ?_) | (refine store_lk_new rfl _ _ rfl ⟨ip3, il3, ic3⟩ ⟨mp3, ml3, mc3⟩ ⟨ap3, al3, ac3⟩ true w9 #[.slice none 0 0, .slice none 0 0, .slice none 0 0, .bool false] rfl rfl rfl rfl ?_))
        rename World => w9
        dsimp only [Sl.val]
        obtain ⟨wA, hwA⟩ : ∃ wA, wA = (w9.alloc (.cells #[.slice none 0 0, .slice none 0 0, .slice none 0 0, .bool false] 46)).setRow w9.heap.size #[.slice ip3 il3 ic3, .slice mp3 ml3 mc3, .slice ap3 al3 ac3, .bool true] := ⟨_, rfl⟩
        have HLA : Hid (Below w.heap.size w wA ∧ (LkAt wA (argO w8 own8) t D3 ⟨ip3, il3, ic3⟩ ⟨mp3, ml3, mc3⟩ ⟨ap3, al3, ac3⟩ S3 ∧ PinB wA (argO w8 own8) w9.heap.size (.cells #[.slice ip3 il3 ic3, .slice mp3 ml3 mc3, .slice ap3 al3 ac3, .bool true] 46)) ∧ (LkAt wA (argO w8 own8) t D' ⟨ip2, il2, ic2⟩ ⟨mp2, ml2, mc2⟩ ⟨ap2, al2, ac2⟩ S2 ∧ PinB wA (argO w8 own8) w6.heap.size (.cells #[.slice ip2 il2 ic2, .slice mp2 ml2 mc2, .slice ap2 al2 ac2, .bool true] 46)) ∧ LkAt wA (argO w8 own8) t D1 ⟨ip, il, ic⟩ ⟨mp, ml, mc⟩ ⟨ap, al, ac⟩ S ∧ PinB wA (argO w8 own8) w4.heap.size (.cells #[.slice ip il ic, .slice mp ml mc, .slice ap al ac, .bool true] 46)) := by
          obtain ⟨a1, a2, a3, a4⟩ := look_done HP.out.R HK8.out.1 HL9.out.1 HL9.out.2 _ hwA ⟨_, rfl⟩
          exact ⟨a2.b, ⟨a3, a4⟩, ⟨HK8.out.2.1.1.pin a1, HK8.out.2.1.2.pin a1⟩, HK8.out.2.2.1.pin a1, HK8.out.2.2.2.pin a1⟩
        rw [← hwA]
        clear hwA HL9 HK8
        try dsimp only
        try simp only [Act.put, List.getElem_toArray, List.getElem_cons_succ, List.getElem_cons_zero, List.setIfInBounds_toArray, List.set_cons_zero, List.set_cons_succ]
        have HSM : Hid (∀ k : Nat, k < t.length → (k : Int) ≠ (nk : Int) → lvAt t D3 k = lvAt t D' k ∧ wmAt t D3 k = wmAt t D' k) := fun k hk hne => by
          rw [HD3.out]; exact cra_other (by omega)
        go_upto_region 28 with (first | (refine load_lk rfl _ rfl w6.heap.size rfl _ _ _ _ (by exact HLA.out.2.2.1.2.1) ?_) | (refine load_lk rfl _ rfl w9.heap.size rfl _ _ _ _ (by exact HLA.out.2.1.2.1) ?_) | (go_at_call 18; refine (kalike_any wA (argO w8 own8) (argO w8 own8) t h8 D' D3 ⟨ip2, il2, ic2⟩ ⟨mp2, ml2, mc2⟩ ⟨ap2, al2, ac2⟩ ⟨ip3, il3, ic3⟩ ⟨mp3, ml3, mc3⟩ ⟨ap3, al3, ac3⟩ S2 S3 HLA.out.2.2.1.1 HLA.out.2.1.1 nk ⟨by omega, by omega⟩ HGD2.out HSM.out).mono ?_; rintro e wB ⟨rfl, hbB⟩; have HBB : Hid (Below wA.heap.size wA wB) := hbB; clear hbB))
        rename World => wB
        have HBK : Hid (lvAt t D3 nk = lvAt t D1 nk ∧ wmAt t D3 nk = wmAt t D1 nk) := by
          have h1 := HD1.out.1
          unfold Hid
          rw [HD3.out, h1]
          have := stored_back (t := t) (D0 := D0) (D2 := D') (n := nk) (by omega) (by rw [hN]; exact HD1.out.2) (by rw [← h1]; exact HKS.out)
          exact ⟨this.1, this.2.1⟩
        have hg1 := HGD1.out nk (by omega)
        have HOK1 : Hid (AllOkI (lvAt t D1 nk)) := hg1.ok
        have hln1 := hg1.len
        have HOA : Hid (askAn t (lvAt t D1 nk) nk 0 19).Ok := askAn_ok hg1.ok hg1.len nk 0 19
        have l0 : wB.cell? ⟨w4.heap.size, 0, none⟩ = some (.slice ip il ic) := by
          have := keep HBB.out HLA.out.2.2.2.2.1; rw [cell_of_row _ _ _ _ _ _ this]; rfl
        have l1 : wB.cell? ⟨w4.heap.size, 1, none⟩ = some (.slice mp ml mc) := by
          have := keep HBB.out HLA.out.2.2.2.2.1; rw [cell_of_row _ _ _ _ _ _ this]; rfl
        have l2 : wB.cell? ⟨w4.heap.size, 2, none⟩ = some (.slice ap al ac) := by
          have := keep HBB.out HLA.out.2.2.2.2.1; rw [cell_of_row _ _ _ _ _ _ this]; rfl
        have n0 : wB.cell? ⟨w9.heap.size, 0, none⟩ = some (.slice ip3 il3 ic3) := by
          have := keep HBB.out HLA.out.2.1.2.1; rw [cell_of_row _ _ _ _ _ _ this]; rfl
        have n1 : wB.cell? ⟨w9.heap.size, 1, none⟩ = some (.slice mp3 ml3 mc3) := by
          have := keep HBB.out HLA.out.2.1.2.1; rw [cell_of_row _ _ _ _ _ _ this]; rfl
        have n2 : wB.cell? ⟨w9.heap.size, 2, none⟩ = some (.slice ap3 al3 ac3) := by
          have := keep HBB.out HLA.out.2.1.2.1; rw [cell_of_row _ _ _ _ _ _ this]; rfl
        obtain ⟨s, hs⟩ : ∃ s, S[nk]? = some s := ⟨_, List.getElem?_eq_getElem (by rw [HLA.out.2.2.2.1.ls]; omega)⟩
        obtain ⟨s', hs'⟩ : ∃ s', S3[nk]? = some s' := ⟨_, List.getElem?_eq_getElem (by rw [HLA.out.2.1.1.ls]; omega)⟩
        obtain ⟨gi, oi, rfl, hgi, ci⟩ := HLA.out.2.2.2.1.ri.sl_at HBB.out nk s hs
        obtain ⟨gi', oi', rfl, hgi', ci'⟩ := HLA.out.2.1.1.ri.sl_at HBB.out nk s' hs'
        have hit := HLA.out.2.2.2.1.it nk s hs
        have hit' := HLA.out.2.1.1.it nk s' hs'
        rw [HBK.out.1] at hit'
        obtain ⟨sp, sl, sc1⟩ := s
        obtain ⟨sp', sl', sc1'⟩ := s'
        obtain rfl : sl = sl' := hit.1.symm.trans hit'.1
        have HIT : Hid ((lvAt t D1 nk).length = sl ∧ RowsAt clIt wA sp (lvAt t D1 nk) ∧ RowsAt clIt wA sp' (lvAt t D1 nk)) := ⟨hit.1, hit.2, hit'.2⟩
        have hsl : sl ≤ 160 := by have := HIT.out.1; omega
        obtain ⟨gm, om, rfl, hgm, cm⟩ := HLA.out.2.2.2.1.rm.int_at HBB.out nk (by rw [lkM_len]; omega)
        obtain ⟨gm', om', rfl, hgm', cm'⟩ := HLA.out.2.1.1.rm.int_at HBB.out nk (by rw [lkM_len]; omega)
        rw [(List.getElem?_eq_some_iff.1 (lkM_at t D1 (show nk < t.length by omega))).2] at cm
        rw [(List.getElem?_eq_some_iff.1 (lkM_at t D3 (show nk < t.length by omega))).2, HBK.out.2] at cm'
        obtain ⟨wm, hwm⟩ : ∃ wm, wm = wmAt t D1 nk := ⟨_, rfl⟩
        rw [← hwm] at cm cm'
        obtain ⟨ga, oa, rfl, hga, ra⟩ := HLA.out.2.2.2.1.ra.pos nk (by rw [lkA_len]; omega)
        obtain ⟨ga', oa', rfl, hga', ra'⟩ := HLA.out.2.1.1.ra.pos nk (by rw [lkA_len]; omega)
        have ra1 := range_below HBB.out hga (ra nk _ (lkA_at t D1 (show nk < t.length by omega)))
        have ra2 := range_below HBB.out hga' (ra' nk _ (lkA_at t D3 (show nk < t.length by omega)))
        rw [HBK.out.1] at ra2
        obtain ⟨an, han⟩ : ∃ an, an = askAn t (lvAt t D1 nk) nk 0 19 := ⟨_, rfl⟩
        have HOA' : Hid an.Ok := by rw [han]; exact HOA.out
        rw [← han] at ra1 ra2
        have HRA : Hid (wB.rangeAt ga (oa + nk * 30) an.cells ∧ wB.rangeAt ga' (oa' + nk * 30) an.cells ∧ ga < wB.heap.size ∧ ga' < wB.heap.size) := ⟨ra1, ra2, Nat.lt_of_lt_of_le hga HBB.out.size, Nat.lt_of_lt_of_le hga' HBB.out.size⟩
        obtain ⟨AA, hAA⟩ : ∃ AA, IsAn AA an := ⟨_, isAn_of an⟩
        have hil : il = N := HLA.out.2.2.2.1.ni.trans hN
        have hml : ml = N := HLA.out.2.2.2.1.nm.trans hN
        have hal : al = N := HLA.out.2.2.2.1.na.trans hN
        have hil3 : il3 = N := HLA.out.2.1.1.ni.trans hN
        have hml3 : ml3 = N := HLA.out.2.1.1.nm.trans hN
        have hal3 : al3 = N := HLA.out.2.1.1.na.trans hN
        have q0 : (0 : Int) ≤ (nk : Int) := by omega
        have q1 : (nk : Int) < (il : Int) := by omega
        have q2 : (nk : Int) < (ml : Int) := by omega
        have q3 : (nk : Int) < (al : Int) := by omega
        have q4 : (nk : Int) < (il3 : Int) := by omega
        have q5 : (nk : Int) < (ml3 : Int) := by omega
        have q6 : (nk : Int) < (al3 : Int) := by omega
        have HBW : Hid (Below w.heap.size w wA) := HLA.out.1
        clear hil hml hal hil3 hml3 hal3 hit hit' hs hs' ra ra' ra1 ra2 han hwm HOA hg1 hln1 HLA
        have hT0 : (fun w' : World => (w'.cell? ⟨w4.heap.size, 0, none⟩ = some (.slice (some ⟨gi, oi, none⟩) il ic) ∧ w'.cell? ⟨w9.heap.size, 0, none⟩ = some (.slice (some ⟨gi', oi', none⟩) il3 ic3) ∧ w'.cell? ⟨gi, oi + nk, none⟩ = some (.slice sp sl sc1) ∧ w'.cell? ⟨gi', oi' + nk, none⟩ = some (.slice sp' sl sc1'))) wB.drew := ⟨l0, n0, ci, ci'⟩
        refine wp_region_held (S := fun w' : World => (w'.cell? ⟨w4.heap.size, 0, none⟩ = some (.slice (some ⟨gi, oi, none⟩) il ic) ∧ w'.cell? ⟨w9.heap.size, 0, none⟩ = some (.slice (some ⟨gi', oi', none⟩) il3 ic3) ∧ w'.cell? ⟨gi, oi + nk, none⟩ = some (.slice sp sl sc1) ∧ w'.cell? ⟨gi', oi' + nk, none⟩ = some (.slice sp' sl sc1'))) mixed ?_
        refine wpAnyH_take (i := 0) (v := (.pointer (some ⟨w4.heap.size, 0, none⟩))) rfl (by kernel_rfl) (by kernel_rfl) (by kernel_rfl) (fun _ _ _ h => h) (Or.inl ⟨by rfl, fun wx hx => by go_simp⟩) hT0 ?_
        try dsimp only
        try simp only [Act.put, List.getElem_toArray, List.getElem_cons_succ, List.getElem_cons_zero, List.setIfInBounds_toArray, List.set_cons_zero, List.set_cons_succ]
        refine wpAnyH_take (i := 1) (v := (.slice (some ⟨gi, oi, none⟩) il ic)) rfl (by kernel_rfl) (by kernel_rfl) (by kernel_rfl) (fun _ _ _ h => h) (Or.inl ⟨by rfl, fun wx hx => by have hx1 := hx.1; go_simp⟩) hT0 ?_
        try dsimp only
        try simp only [Act.put, List.getElem_toArray, List.getElem_cons_succ, List.getElem_cons_zero, List.setIfInBounds_toArray, List.set_cons_zero, List.set_cons_succ]
        refine wpAnyH_take (i := 2) (v := (.int .i64 nk)) rfl (by kernel_rfl) (by kernel_rfl) (by kernel_rfl) (fun _ _ _ h => h) (Or.inl ⟨by rfl, fun wx hx => by go_simp⟩) hT0 ?_
        try dsimp only
        try simp only [Act.put, List.getElem_toArray, List.getElem_cons_succ, List.getElem_cons_zero, List.setIfInBounds_toArray, List.set_cons_zero, List.set_cons_succ]
        refine wpAnyH_take (i := 3) (v := (.pointer (some ⟨gi, oi + nk, none⟩))) rfl (by kernel_rfl) (by kernel_rfl) (by kernel_rfl) (fun _ _ _ h => h) (Or.inl ⟨by rfl, fun wx hx => by go_simp⟩) hT0 ?_
        try dsimp only
        try simp only [Act.put, List.getElem_toArray, List.getElem_cons_succ, List.getElem_cons_zero, List.setIfInBounds_toArray, List.set_cons_zero, List.set_cons_succ]
        refine wpAnyH_take (i := 4) (v := (.slice sp sl sc1)) rfl (by kernel_rfl) (by kernel_rfl) (by kernel_rfl) (fun _ _ _ h => h) (Or.inl ⟨by rfl, fun wx hx => by have hx1 := hx.2.2.1; go_simp⟩) hT0 ?_
        try dsimp only
        try simp only [Act.put, List.getElem_toArray, List.getElem_cons_succ, List.getElem_cons_zero, List.setIfInBounds_toArray, List.set_cons_zero, List.set_cons_succ]
        refine wpAnyH_take (i := 5) (v := (.pointer (some ⟨w9.heap.size, 0, none⟩))) rfl (by kernel_rfl) (by kernel_rfl) (by kernel_rfl) (fun _ _ _ h => h) (Or.inl ⟨by rfl, fun wx hx => by go_simp⟩) hT0 ?_
        try dsimp only
        try simp only [Act.put, List.getElem_toArray, List.getElem_cons_succ, List.getElem_cons_zero, List.setIfInBounds_toArray, List.set_cons_zero, List.set_cons_succ]
        refine wpAnyH_take (i := 6) (v := (.slice (some ⟨gi', oi', none⟩) il3 ic3)) rfl (by kernel_rfl) (by kernel_rfl) (by kernel_rfl) (fun _ _ _ h => h) (Or.inl ⟨by rfl, fun wx hx => by have hx1 := hx.2.1; go_simp⟩) hT0 ?_
        try dsimp only
        try simp only [Act.put, List.getElem_toArray, List.getElem_cons_succ, List.getElem_cons_zero, List.setIfInBounds_toArray, List.set_cons_zero, List.set_cons_succ]
        refine wpAnyH_take (i := 7) (v := (.int .i64 nk)) rfl (by kernel_rfl) (by kernel_rfl) (by kernel_rfl) (fun _ _ _ h => h) (Or.inl ⟨by rfl, fun wx hx => by go_simp⟩) hT0 ?_
        try dsimp only
        try simp only [Act.put, List.getElem_toArray, List.getElem_cons_succ, List.getElem_cons_zero, List.setIfInBounds_toArray, List.set_cons_zero, List.set_cons_succ]
        refine wpAnyH_take (i := 8) (v := (.pointer (some ⟨gi', oi' + nk, none⟩))) rfl (by kernel_rfl) (by kernel_rfl) (by kernel_rfl) (fun _ _ _ h => h) (Or.inl ⟨by rfl, fun wx hx => by go_simp⟩) hT0 ?_
        try dsimp only
        try simp only [Act.put, List.getElem_toArray, List.getElem_cons_succ, List.getElem_cons_zero, List.setIfInBounds_toArray, List.set_cons_zero, List.set_cons_succ]
        refine wpAnyH_take (i := 9) (v := (.slice sp' sl sc1')) rfl (by kernel_rfl) (by kernel_rfl) (by kernel_rfl) (fun _ _ _ h => h) (Or.inl ⟨by rfl, fun wx hx => by have hx1 := hx.2.2.2; go_simp⟩) hT0 ?_
        try dsimp only
        try simp only [Act.put, List.getElem_toArray, List.getElem_cons_succ, List.getElem_cons_zero, List.setIfInBounds_toArray, List.set_cons_zero, List.set_cons_succ]
        refine wpAnyH_all (rs := [10]) (by kernel_rfl) (by simp) ?_
        intro jj hjj
        simp only [List.mem_cons, List.not_mem_nil, or_false] at hjj
        subst hjj
        refine wpOp_of_wp rfl rfl ?_
        go_simp
        refine (ksame_any (lvAt t D1 nk) HOK1.out sp sp' sl sc1 sc1' wB.drew HIT.out.1 ((HIT.out.2.1.below HBB.out).below below_drew) ((HIT.out.2.2.below HBB.out).below below_drew) (by omega)).mono ?_
        rintro e wC ⟨rfl, hbC⟩
        replace hbC : Below wB.heap.size wB wC := bnext below_drew hbC
        have hT1 : (fun w' : World => (w'.cell? ⟨w4.heap.size, 0, none⟩ = some (.slice (some ⟨gi, oi, none⟩) il ic) ∧ w'.cell? ⟨w9.heap.size, 0, none⟩ = some (.slice (some ⟨gi', oi', none⟩) il3 ic3) ∧ w'.cell? ⟨gi, oi + nk, none⟩ = some (.slice sp sl sc1) ∧ w'.cell? ⟨gi', oi' + nk, none⟩ = some (.slice sp' sl sc1'))) wC := ⟨cell_keep hbC l0, cell_keep hbC n0, cell_keep hbC ci, cell_keep hbC ci'⟩
        refine ⟨hT1, ?_⟩
        try dsimp only
        try simp only [Act.put, List.getElem_toArray, List.getElem_cons_succ, List.getElem_cons_zero, List.setIfInBounds_toArray, List.set_cons_zero, List.set_cons_succ]
        refine wpAnyH_take (i := 11) (v := (.bool true)) rfl (by kernel_rfl) (by kernel_rfl) (by kernel_rfl) (fun _ _ _ h => h) (Or.inl ⟨by rfl, fun wx hx => by go_simp⟩) hT1 ?_
        try dsimp only
        try simp only [Act.put, List.getElem_toArray, List.getElem_cons_succ, List.getElem_cons_zero, List.setIfInBounds_toArray, List.set_cons_zero, List.set_cons_succ]
        refine wpAnyH_done (by kernel_rfl) ?_ _
        have HBC : Hid (Below w.heap.size w wC) := bnext HBW.out (bnext HBB.out hbC)
        have R1 := range_below hbC HRA.out.2.2.1 HRA.out.1
        have R2 := range_below hbC HRA.out.2.2.2 HRA.out.2.1
        replace l1 := cell_keep hbC l1
        replace l2 := cell_keep hbC l2
        replace n1 := cell_keep hbC n1
        replace n2 := cell_keep hbC n2
        replace cm := cell_keep hbC cm
        replace cm' := cell_keep hbC cm'
        clear hT0 hT1 l0 n0 ci ci' hbC
        go_upto_region 29 with fail
        refine wp_region_still_lit mixed (by kernel_rfl) ?_
        repeat still_step
        refine still_load_an_mid (by rfl) _ rfl _ _ rfl AA an hAA (by exact R1) ?_
        repeat still_step
        refine still_load_an_mid (by rfl) _ rfl _ _ rfl AA an hAA (by exact R2) ?_
        refine still_eql_an (by rfl) _ _ _ rfl AA an hAA HOA'.out rfl rfl ?_
        repeat still_step
        refine wpStill_nil ?_
        clear R1 R2 l1 l2 n1 n2 cm cm'
        go_wp2
        go_ret
        exact ⟨rfl, below_drawn HBC.out _⟩
end Go.Proofs.Ytpglbakcjihohab
