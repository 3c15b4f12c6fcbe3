/-
  Own texts, laid together: What is refused of packets and of windows: the walk. Refused: what the document refuses is refused with its error, and changes nothing.
-/
import Derived.Test.YtpglbakcjihohabRows
import Derived.Test.YtpglbakcjihohabPart9
set_option linter.unusedSimpArgs false
set_option linter.unusedVariables false
set_option linter.deprecated false
/-! What is refused of packets and of windows: the walk. -/
namespace Go.Proofs.Ytpglbakcjihohab
open Go.RowKit
set_option maxRecDepth 100000

theorem KT.set {SR : SRT} {B0 bk bs : Nat} {t : List Int} {wid : Int} {m : Nat} {D : List Nd} {A : List (Int × List It)} {w w1 : World} {own own1 : Ghost} (R : PR SR) (h : KT SR B0 bk bs t wid m D A w own w1 own1) {g i : Nat} {v : Value} (hg : own1 g = .arg) (hl : w.heap.size ≤ g) : KT SR B0 bk bs t wid m D A w own (w1.setCell ⟨g, i, none⟩ v) own1 := by
  have f : Fr own1 (fun t => t = .arg) w1 (w1.setCell ⟨g, i, none⟩ v) := ⟨rfl, rfl, rfl, by simp, fun k hk hf hn => heap_setCell_other _ _ _ _ (by show k ≠ g; intro e; exact hn (by rw [e]; exact hg))⟩
  obtain ⟨vt, vs, vl, C, PK, gg⟩ := h.x
  refine ⟨⟨vt, vs, vl, C, PK, gg.chg R f (Same.refl _ _) (fun _ h => h)⟩, h.s, h.f.os, h.f.tape, h.f.output, by have := h.f.size; simpa using this, fun k hk hf hn => ?_⟩
  rw [heap_setCell_other _ _ _ _ (by show k ≠ g; omega)]
  exact h.f.block k hk hf hn
theorem fitsLit (v : Int) (h : -9223372036854775808 ≤ v ∧ v ≤ 9223372036854775807) : fitsI v := h
theorem PinB.below {w w' : World} {own : Ghost} {k : Nat} {o : Obj} (h : PinB w own k o) (hb : Below w.heap.size w w') : PinB w' own k o := ⟨(hb.block k h.lt).trans h.1, h.2⟩
set_option maxHeartbeats 16000000 in
theorem kpackets_any (SR : SRT) (P : PA SR) (w : World) (own : Ghost) (B0 bk bs : Nat) (t : List Int) (wid : Int) (m : Nat) (D : List Nd) (A : List (Int × List It)) (hx : KX SR B0 bk bs t wid m D A w own) (hm : m < 100000000) (n : Nat) (hn : n < t.length) (raw : Int) (hraw : fitsI raw) :
    Calls Try.prog 22 #[.pointer (some ⟨bk, 0, none⟩), .int .i64 n, .int .i64 raw] w fun e w' => e = .returned (.bool true) ∧ KN SR B0 bk bs t wid m D A w own w' := by
  have HP : Hid (PA SR) := P
  have HK0 : Hid (KT SR B0 bk bs t wid m D A w own w own) := KT.refl hx
  have HDI : Hid (DI D 100000000) := hx.di.mono' (by omega)
  have HT : Hid (Tree t) := hx.tree
  have h8 := hx.tree.le
  have hp1 := hx.tree.pos
  obtain ⟨tp, tc, c0, _⟩ := hx.cells
  obtain ⟨N, hN⟩ : ∃ N, t.length = N := ⟨_, rfl⟩
  have HN : Hid (t.length = N) := hN
  have hnN : n < N := by omega
  obtain ⟨o, ho⟩ : ∃ o, o = outI raw 20 := ⟨_, rfl⟩
  have HO : Hid (outI raw 20 = o) := ho.symm
  have hof : fitsI o := by rw [ho]; exact outI_fits hraw (by omega) (by omega)
  have HOF : Hid (fitsI o) := hof
  have HOO : Hid (o < 0 ∨ 20 ≤ o) := by rw [ho]; exact outI_out raw 20 (by omega)
  have hnd : isNd t n = true := by simp [isNd]; omega
  have HND : Hid (isNd t n = true) := hnd
  have HNL : Hid (n < t.length) := hn
  have hrg : isRg o o = false := by unfold isRg; exact decide_eq_false (by have := HOO.out; omega)
  have HS0 : Hid (sndE t 0 0 0 = 4 ∧ sndF t 0 0 0 = 0 ∧ sndL t D 0 0 0 = []) := by
    have he : sndE t 0 0 0 = 4 := by unfold sndE; rw [if_pos (by simp [isNd]; omega), if_pos rfl]
    exact ⟨he, by unfold sndF; rw [he]; simp, by unfold sndL; rw [he]; simp⟩
  have HA1 : Hid (askErr t n o o = 8) := by unfold Hid askErr; rw [hnd, hrg]; simp
  have HA2 : Hid (askErr t n 3 2 = 8) := by unfold Hid askErr; rw [hnd]; decide
  have HRGO : Hid (isRg o o = false) := hrg
  have HNF : Hid (fitsI (n : Int)) := ⟨by omega, by omega⟩
  clear P hx ho hof hnd hrg hn
  go_enter Try.func22, Try.ntmps22
  go_upto_region 3 with (first | (go_at_call 20; refine (koutside_any raw 20 _ hraw (by omega) (by omega)).mono ?_; rintro e wA ⟨rfl, hwA⟩; have hwA := hwA.symm; subst hwA; rw [HO.out]) | (go_at_call 16; refine (HP.out.D.send w own B0 bs t wid D HK0.out.st HDI.out 0 0 0 ⟨by omega, by omega⟩ ⟨by omega, by omega⟩ ⟨by omega, by omega⟩).mono ?_; rintro e w1 ⟨v1, rfl, ho1, hb1⟩; rw [HS0.out.1, HS0.out.2.1]; rw [HS0.out.2.2] at ho1; obtain ⟨xp, xc, rfl⟩ : ∃ xp xc, v1 = .slice xp 0 xc := (by obtain ⟨p, c, e, _⟩ := ho1.form; exact ⟨p, c, e⟩); have HB1 : Hid (Below w.heap.size w w1) := hb1; clear ho1 hb1 c0) | (refine alloc_pk rfl rfl ?_) | (refine store_pk_new rfl _ _ rfl _ ⟨xp, 0, xc⟩ w1 #[.int .i64 0, .slice none 0 0] rfl rfl rfl rfl ?_))
  rename World => w1
  obtain ⟨w2, hw2⟩ : ∃ w2, w2 = (w1.alloc (.cells #[.int .i64 0, .slice none 0 0] 34)).setRow w1.heap.size #[.int .i64 0, .slice xp 0 xc] := ⟨_, rfl⟩
  have hs01 : w.heap.size ≤ w1.heap.size := HB1.out.size
  have HB2 : Hid (Below w.heap.size w w2) := by unfold Hid; rw [hw2]; exact below_setRow _ (bnext HB1.out (below_alloc _ _)) hs01
  have HK2 : Hid (KT SR B0 bk bs t wid m D A w own w2 (argO w own)) := HK0.out.pin HP.out.R HB2.out
  have HP2 : Hid (PinB w2 (argO w own) w1.heap.size (.cells #[.int .i64 0, .slice xp 0 xc] 34)) := ⟨by rw [hw2]; exact setRow_blk (heap_alloc_new _ _), argO_new hs01⟩
  rw [← hw2]
  clear hw2
  try dsimp only
  try simp only [Act.put, List.getElem_toArray, List.getElem_cons_succ, List.getElem_cons_zero, List.setIfInBounds_toArray, List.set_cons_zero, List.set_cons_succ]
  obtain ⟨own2, hown2⟩ : ∃ own2, own2 = argO w own := ⟨_, rfl⟩
  rw [← hown2] at HK2 HP2
  clear hown2
  have c0 := (KX.cells HK2.out.x).choose_spec.choose_spec.1
  go_upto_region 4 with (first | (go_at_call 32; refine (HP.out.R.ask w2 own2 B0 bs t wid D HK2.out.st HDI.out n o o HNF.out HOF.out HOF.out).mono ?_; rintro e w3 ⟨AA, rfl, hA, hb3⟩; rw [HA1.out]; have HA : Hid (∃ x, IsAn AA x) := ⟨_, hA⟩; have HB3 : Hid (Below w2.heap.size w2 w3) := hb3; clear hA hb3 c0) | (refine alloc_an rfl rfl ?_; intro Z hZ) | (refine store_an_new rfl _ _ rfl AA _ _ rfl rfl (by rfl) HA.out.choose_spec hZ ?_))
  rename World => w3
  obtain ⟨w4, hw4⟩ : ∃ w4, w4 = w3.alloc (.cells AA 61) := ⟨_, rfl⟩
  have HB4 : Hid (Below w2.heap.size w2 w4) := by unfold Hid; rw [hw4]; exact bnext HB3.out (below_alloc _ _)
  have HK4 : Hid (KT SR B0 bk bs t wid m D A w own w4 own2) := HK2.out.below HP.out.R HB4.out
  have HP4 : Hid (PinB w4 own2 w1.heap.size (.cells #[.int .i64 0, .slice xp 0 xc] 34)) := HP2.out.below HB4.out
  rw [← hw4]
  clear hw4
  try dsimp only
  try simp only [Act.put, List.getElem_toArray, List.getElem_cons_succ, List.getElem_cons_zero, List.setIfInBounds_toArray, List.set_cons_zero, List.set_cons_succ]
  have c0 := (KX.cells HK4.out.x).choose_spec.choose_spec.1
  go_upto_region 5 with (first | (go_at_call 32; refine (HP.out.R.ask w4 own2 B0 bs t wid D HK4.out.st HDI.out n 3 2 HNF.out ⟨by omega, by omega⟩ ⟨by omega, by omega⟩).mono ?_; rintro e w5 ⟨AB, rfl, hA, hb5⟩; rw [HA2.out]; have HA' : Hid (∃ x, IsAn AB x) := ⟨_, hA⟩; have HB5 : Hid (Below w4.heap.size w4 w5) := hb5; clear hA hb5 c0) | (refine alloc_an rfl rfl ?_; intro Z hZ) | (refine store_an_new rfl _ _ rfl AB _ _ rfl rfl (by rfl) HA'.out.choose_spec hZ ?_))
  rename World => w5
  obtain ⟨w6, hw6⟩ : ∃ w6, w6 = w5.alloc (.cells AB 61) := ⟨_, rfl⟩
  have HB6 : Hid (Below w4.heap.size w4 w6) := by unfold Hid; rw [hw6]; exact bnext HB5.out (below_alloc _ _)
  have HK6 : Hid (KT SR B0 bk bs t wid m D A w own w6 own2) := HK4.out.below HP.out.R HB6.out
  have HP6 : Hid (PinB w6 own2 w1.heap.size (.cells #[.int .i64 0, .slice xp 0 xc] 34)) := HP4.out.below HB6.out
  rw [← hw6]
  clear hw6
  try dsimp only
  try simp only [Act.put, List.getElem_toArray, List.getElem_cons_succ, List.getElem_cons_zero, List.setIfInBounds_toArray, List.set_cons_zero, List.set_cons_succ]
  obtain ⟨tp6, tc6, c0, c1, c2, htr6, _⟩ := HK6.out.x.cells
  rw [hN] at c1
  obtain ⟨gt, ot, rfl, hgt, ct⟩ := htr6.int_at (Below.refl _ _) n (by omega)
  obtain ⟨up, hup⟩ : ∃ up, t.getD n 0 = up := ⟨_, rfl⟩
  rw [← tree_get (by omega), hup] at ct
  have HUP : Hid (t.getD n 0 = up) := hup
  have q0 : (0 : Int) ≤ (n : Int) := by omega
  have q1 : (n : Int) < (N : Int) := by omega
  clear htr6 c2 hup
  by_cases hz : n = 0
  · have hjn : ((n : Int) == 0) = true := by simp [hz]
    have HD9 : Hid (delE t 0 0 [] = 9 ∧ delD t D 0 0 [] = D) := by
      have := del_no (D := D) HND.out (un_from HT.out HNL.out)
      rw [hz] at this; exact this
    clear hz
    go_upto_region 8 with (first | (refine build_pk1 rfl _ rfl 0 rfl ?_) | (go_at_call 9; refine (HP.out.J.deliver w6 own2 B0 bs t wid D HK6.out.st HDI.out HK6.out.x.b0 0 0 [] none 0 0 ⟨by omega, by omega⟩ ⟨by omega, by omega⟩ rfl (.inl rfl) (fun i x hx => by simp at hx) (by omega) (fun b off e => by cases e)).mono ?_; rintro e w7 ⟨rfl, hc⟩; rw [HD9.out.1]; rw [HD9.out.2] at hc; obtain ⟨own7, hk7, sm7, fr7⟩ := HK6.out.chg hc; have HK7 : Hid (KT SR B0 bk bs t wid m D A w own w7 own7) := hk7; have HP7 : Hid (PinB w7 own7 w1.heap.size (.cells #[.int .i64 0, .slice xp 0 xc] 34)) := HP6.out.st sm7 fr7; clear hc hk7 sm7 fr7 c0 c1 ct))
    rename World => w7
    have x1 : w7.cell? ⟨w1.heap.size, 1, none⟩ = some (.slice xp 0 xc) := by rw [cell_of_row _ _ _ _ _ _ HP7.out.1]; rfl
    go_wp2
    go_ret
    exact ⟨rfl, HK7.out.kn⟩
  · have hjn : ((n : Int) == 0) = false := by simp; omega
    have hT := HT.out.up n (by omega) (by omega)
    rw [HUP.out] at hT
    have HUN : Hid (isNd t up = true) := by unfold Hid; simp [isNd]; omega
    have HUB : Hid (fitsI up ∧ fitsI (n : Int)) := ⟨⟨by omega, by omega⟩, HNF.out⟩
    have HS1 : Hid (sndE t n o o = 8 ∧ sndF t n o o = 0 ∧ sndL t D n o o = []) := by
      have he : sndE t n o o = 8 := by unfold sndE; rw [if_pos HND.out, if_neg (by omega), HRGO.out]; simp
      exact ⟨he, by unfold sndF; rw [he]; simp, by unfold sndL; rw [he]; simp⟩
    have HUF : Hid (fair t n n [] = false) := un_from HT.out HNL.out
    have HUL : Hid (isLf t up = false) := by
      unfold Hid isLf
      simp only [decide_eq_false_iff_not, Classical.not_not]
      rw [← HUP.out]
      simp only [List.getD, List.getElem?_eq_getElem HNL.out, Option.getD_some]
      exact List.getElem_mem _
    clear hT
    go_upto_region 10 with (first | (go_at_call 16; refine (HP.out.D.send w6 own2 B0 bs t wid D HK6.out.st HDI.out n o o HNF.out HOF.out HOF.out).mono ?_; rintro e w7 ⟨v1, rfl, ho1, hb1⟩; rw [HS1.out.1, HS1.out.2.1]; rw [HS1.out.2.2] at ho1; obtain ⟨yp, yc, rfl⟩ : ∃ yp yc, v1 = .slice yp 0 yc := (by obtain ⟨p, c, e, _⟩ := ho1.form; exact ⟨p, c, e⟩); have HB7 : Hid (Below w6.heap.size w6 w7) := hb1; clear ho1 hb1 c0 c1 ct) | (refine alloc_pk rfl rfl ?_) | (refine store_pk_new rfl _ _ rfl _ ⟨yp, 0, yc⟩ w7 #[.int .i64 0, .slice none 0 0] rfl rfl rfl rfl ?_))
    rename World => w7
    obtain ⟨w8, hw8⟩ : ∃ w8, w8 = (w7.alloc (.cells #[.int .i64 0, .slice none 0 0] 34)).setRow w7.heap.size #[.int .i64 0, .slice yp 0 yc] := ⟨_, rfl⟩
    have HB8 : Hid (Below w6.heap.size w6 w8) := by unfold Hid; rw [hw8]; exact below_setRow _ (bnext HB7.out (below_alloc _ _)) HB7.out.size
    have HK8 : Hid (KT SR B0 bk bs t wid m D A w own w8 own2) := HK6.out.below HP.out.R HB8.out
    rw [← hw8]
    clear hw8
    try dsimp only
    try simp only [Act.put, List.getElem_toArray, List.getElem_cons_succ, List.getElem_cons_zero, List.setIfInBounds_toArray, List.set_cons_zero, List.set_cons_succ]
    have c0 := (KX.cells HK8.out.x).choose_spec.choose_spec.1
    go_upto_region 11 with (first | (refine build_pk1 rfl _ rfl n rfl ?_) | (go_at_call 9; refine (HP.out.J.deliver w8 own2 B0 bs t wid D HK8.out.st HDI.out HK8.out.x.b0 n n [] none 0 0 HNF.out HNF.out rfl (.inl rfl) (fun i x hx => by simp at hx) (by omega) (fun b off e => by cases e)).mono ?_; rintro e w9 ⟨rfl, hc⟩; rw [(del_no (D := D) HND.out HUF.out).1]; rw [(del_no (D := D) HND.out HUF.out).2] at hc; obtain ⟨own9, hk9, _, _⟩ := HK8.out.chg hc; have HK9 : Hid (KT SR B0 bk bs t wid m D A w own w9 own9) := hk9; clear hc hk9 c0))
    rename World => w9
    have c0 := (KX.cells HK9.out.x).choose_spec.choose_spec.1
    have HUF1 : Hid (fair t up n [It.mk up 0 0 false Sk.zero] = false) := un_one (un_lf HUL.out)
    have HOK1 : Hid (AllOkI [It.mk up 0 0 false Sk.zero]) := allOkI_of fun x hx => by
      rw [List.mem_singleton.1 hx]; exact ⟨HUB.out.1, fitsLit 0 (by decide), fitsLit 0 (by decide), Sk.zero_ok⟩
    go_upto_region 12 with (first | (refine build_it rfl _ rfl (It.mk up 0 0 false Sk.zero) (by kernel_rfl) ?_; intro M0 hM0) | (refine build1_it rfl _ rfl M0 _ hM0 rfl ?_; intro R1) | (refine build_pk2 rfl _ _ rfl n _ 1 1 rfl rfl ?_) | (go_at_call 9; refine (HP.out.J.deliver _ (argO w9 own9) B0 bs t wid D (HK9.out.pin HP.out.R (below_alloc _ _)).st HDI.out (HK9.out.pin HP.out.R (below_alloc _ _)).x.b0 up n _ _ 1 1 HUB.out.1 HUB.out.2 rfl R1 HOK1.out (by omega) (fun b off e => by cases e; rw [argO_new (Nat.le_refl _)]; exact ⟨by simp, fun i => by simp⟩)).mono ?_; rintro e w11 ⟨rfl, hc⟩; rw [(del_no (D := D) HUN.out HUF1.out).1]; rw [(del_no (D := D) HUN.out HUF1.out).2] at hc; obtain ⟨own11, hk11, _, _⟩ := (HK9.out.pin HP.out.R (below_alloc _ _)).chg hc; have HK11 : Hid (KT SR B0 bk bs t wid m D A w own w11 own11) := hk11; clear hc hk11 c0 R1))
    rename World => w11
    go_upto_region 13 with (first | (go_at_call 45; refine (kbelow_any SR w11 own11 B0 bk bs t wid m D A HK11.out.x n HNL.out).mono ?_; rintro e wA ⟨⟨r, rfl, hr⟩, hwA⟩; have hwA := hwA.symm; subst hwA; have HRN : Hid (r < t.length) := hr; clear hr) | (refine build_it rfl _ rfl (It.mk r o 1 false Sk.zero) (by kernel_rfl) ?_; intro M1 hM1; have HM1 : Hid (IsIt M1 (It.mk r o 1 false Sk.zero)) := hM1; clear hM1) | (refine alloc_it rfl rfl ?_; intro Z hZ) | (refine store_it_new rfl _ _ rfl M1 _ _ rfl rfl (by rfl) HM1.out hZ ?_))
    obtain ⟨w12, hw12⟩ : ∃ w12, w12 = w11.alloc (.cells M1 80) := ⟨_, rfl⟩
    have HB12 : Hid (Below w11.heap.size w11 w12) := by unfold Hid; rw [hw12]; exact below_alloc _ _
    have HK12 : Hid (KT SR B0 bk bs t wid m D A w own w12 (argO w11 own11)) := HK11.out.pin HP.out.R HB12.out
    have HI12 : Hid (PinB w12 (argO w11 own11) w11.heap.size (.cells M1 80)) := ⟨by rw [hw12]; exact heap_alloc_new _ _, argO_new (Nat.le_refl _)⟩
    have HGL : Hid (w.heap.size ≤ w11.heap.size) := HK11.out.f.size
    rw [← hw12]
    clear hw12
    try dsimp only
    try simp only [Act.put, List.getElem_toArray, List.getElem_cons_succ, List.getElem_cons_zero, List.setIfInBounds_toArray, List.set_cons_zero, List.set_cons_succ]
    obtain ⟨own12, hown12⟩ : ∃ own12, own12 = argO w11 own11 := ⟨_, rfl⟩
    rw [← hown12] at HK12 HI12
    clear hown12
    obtain ⟨xA, hxA⟩ : ∃ x, x = It.mk r o 1 false Sk.zero := ⟨_, rfl⟩
    obtain ⟨xB, hxB⟩ : ∃ x, x = It.mk r 4 1 false Sk.zero := ⟨_, rfl⟩
    obtain ⟨xC, hxC⟩ : ∃ x, x = It.mk r 4 (-1) false Sk.zero := ⟨_, rfl⟩
    have HXB : Hid (xB = { xA with win := 4 }) := by rw [hxA, hxB]; rfl
    have HXC : Hid (xC = { xB with ver := -1 }) := by rw [hxB, hxC]; rfl
    have hrf : fitsI (r : Int) := by have := HRN.out; exact ⟨by omega, by omega⟩
    have HOKA : Hid (xA.Ok ∧ xB.Ok ∧ xC.Ok) := by
      rw [hxA, hxB, hxC]
      exact ⟨⟨hrf, HOF.out, fitsLit 1 (by decide), Sk.zero_ok⟩, ⟨hrf, fitsLit 4 (by decide), fitsLit 1 (by decide), Sk.zero_ok⟩, ⟨hrf, fitsLit 4 (by decide), fitsLit (-1) (by decide), Sk.zero_ok⟩⟩
    have HUFA : Hid (fair t up n [xA] = false) := by rw [hxA]; exact un_one (un_win HOO.out)
    have HUFB : Hid (fair t up n [xB, xB] = false) := un_dup
    have HUFC : Hid (fair t up n [xC] = false) := by rw [hxC]; exact un_one (un_ver (show (-1 : Int) < 0 by decide))
    have HGA : Hid (IsIt M1 xA) := by rw [hxA]; exact HM1.out
    have HG1 : Hid (xA.win = o ∧ xB.ver = 1) := by rw [hxA, hxB]; exact ⟨rfl, rfl⟩
    clear hxA hxB hxC hrf
    go_upto_region 13 with fail
    have c0w12 := (KX.cells HK12.out.x).choose_spec.choose_spec.1
    have hT0 : (fun w' : World => w'.cell? ⟨bk, 0, none⟩ = some (.pointer (some ⟨bs, 0, none⟩)) ∧ w'.heap[w11.heap.size]? = some (.cells M1 80)) w12.drew := ⟨c0w12, HI12.out.1⟩
    refine wp_region_held (S := fun w' : World => w'.cell? ⟨bk, 0, none⟩ = some (.pointer (some ⟨bs, 0, none⟩)) ∧ w'.heap[w11.heap.size]? = some (.cells M1 80)) mixed ?_
    refine wpAnyH_take (i := 0) (v := (.pointer (some ⟨bk, 0, none⟩))) rfl (by kernel_rfl) (by kernel_rfl) (by kernel_rfl) (fun _ _ _ h => h) (Or.inl ⟨by rfl, fun wx hx => by go_simp⟩) hT0 ?_
    try dsimp only
    try simp only [Act.put, List.getElem_toArray, List.getElem_cons_succ, List.getElem_cons_zero, List.setIfInBounds_toArray, List.set_cons_zero, List.set_cons_succ]
    refine wpAnyH_take (i := 1) (v := (.pointer (some ⟨bk, 0, none⟩))) rfl (by kernel_rfl) (by kernel_rfl) (by kernel_rfl) (fun _ _ _ h => h) (Or.inl ⟨by rfl, fun wx hx => by go_simp⟩) hT0 ?_
    try dsimp only
    try simp only [Act.put, List.getElem_toArray, List.getElem_cons_succ, List.getElem_cons_zero, List.setIfInBounds_toArray, List.set_cons_zero, List.set_cons_succ]
    refine wpAnyH_take (i := 2) (v := (.pointer (some ⟨bk, 0, none⟩))) rfl (by kernel_rfl) (by kernel_rfl) (by kernel_rfl) (fun _ _ _ h => h) (Or.inl ⟨by rfl, fun wx hx => by go_simp⟩) hT0 ?_
    try dsimp only
    try simp only [Act.put, List.getElem_toArray, List.getElem_cons_succ, List.getElem_cons_zero, List.setIfInBounds_toArray, List.set_cons_zero, List.set_cons_succ]
    refine wpAnyH_take (i := 3) (v := (.pointer (some ⟨bs, 0, none⟩))) rfl (by kernel_rfl) (by kernel_rfl) (by kernel_rfl) (fun _ _ _ h => h) (Or.inl ⟨by rfl, fun wx hx => by have hx1 := hx.1; go_simp⟩) hT0 ?_
    try dsimp only
    try simp only [Act.put, List.getElem_toArray, List.getElem_cons_succ, List.getElem_cons_zero, List.setIfInBounds_toArray, List.set_cons_zero, List.set_cons_succ]
    refine wpAnyH_take (i := 4) (v := (.int .i64 up)) rfl (by kernel_rfl) (by kernel_rfl) (by kernel_rfl) (fun _ _ _ h => h) (Or.inl ⟨by rfl, fun wx hx => by go_simp⟩) hT0 ?_
    try dsimp only
    try simp only [Act.put, List.getElem_toArray, List.getElem_cons_succ, List.getElem_cons_zero, List.setIfInBounds_toArray, List.set_cons_zero, List.set_cons_succ]
    refine wpAnyH_take (i := 5) (v := (.int .i64 n)) rfl (by kernel_rfl) (by kernel_rfl) (by kernel_rfl) (fun _ _ _ h => h) (Or.inl ⟨by rfl, fun wx hx => by go_simp⟩) hT0 ?_
    try dsimp only
    try simp only [Act.put, List.getElem_toArray, List.getElem_cons_succ, List.getElem_cons_zero, List.setIfInBounds_toArray, List.set_cons_zero, List.set_cons_succ]
    refine wpAnyH_take (i := 6) (v := (.agg M1)) rfl (by kernel_rfl) (by kernel_rfl) (by kernel_rfl) (fun _ _ _ h => h) (yieldsIf_load_it (by rfl) _ rfl _ rfl M1 _ HGA.out (fun wx hx => hx.2)) hT0 ?_
    try dsimp only
    try simp only [Act.put, List.getElem_toArray, List.getElem_cons_succ, List.getElem_cons_zero, List.setIfInBounds_toArray, List.set_cons_zero, List.set_cons_succ]
    refine wpAnyH_all (rs := [7]) (by kernel_rfl) (by simp) ?_
    intro jj hjj
    simp only [List.mem_cons, List.not_mem_nil, or_false] at hjj
    subst hjj
    refine wpOp_build1_it rfl rfl _ rfl M1 xA HGA.out rfl ?_
    intro R1
    have hb1 : Below w12.heap.size w12 (w12.drew.alloc (.cells (flat clIt [xA]).toArray 80)) := below_drawn' (below_alloc w12.drew _)
    have hT1 : (fun w' : World => w'.cell? ⟨bk, 0, none⟩ = some (.pointer (some ⟨bs, 0, none⟩)) ∧ w'.heap[w11.heap.size]? = some (.cells M1 80)) (w12.drew.alloc (.cells (flat clIt [xA]).toArray 80)) := ⟨cell_keep hb1 c0w12, keep hb1 HI12.out.1⟩
    refine ⟨hT1, ?_⟩
    try dsimp only
    try simp only [Act.put, List.getElem_toArray, List.getElem_cons_succ, List.getElem_cons_zero, List.setIfInBounds_toArray, List.set_cons_zero, List.set_cons_succ]
    refine wpAnyH_all (rs := [8]) (by kernel_rfl) (by simp) ?_
    intro jj hjj
    simp only [List.mem_cons, List.not_mem_nil, or_false] at hjj
    subst hjj
    refine wpOp_build_pk2 rfl rfl _ _ rfl n _ 1 1 rfl rfl ?_
    refine ⟨hT1, ?_⟩
    try dsimp only
    try simp only [Act.put, List.getElem_toArray, List.getElem_cons_succ, List.getElem_cons_zero, List.setIfInBounds_toArray, List.set_cons_zero, List.set_cons_succ]
    refine wpAnyH_all (rs := [9]) (by kernel_rfl) (by simp) ?_
    intro jj hjj
    simp only [List.mem_cons, List.not_mem_nil, or_false] at hjj
    subst hjj
    refine wpOp_of_wp rfl rfl ?_
    go_simp
    have hkp := HK12.out.pin HP.out.R hb1
    have hip := HI12.out.pin hb1
    refine (HP.out.J.deliver _ (argO w12 own12) B0 bs t wid D hkp.st HDI.out hkp.x.b0 up n [xA] _ 1 1 HUB.out.1 HUB.out.2 rfl R1 (allOkI_of fun x hx => by simp only [List.mem_cons, List.not_mem_nil, or_false, or_self] at hx; rw [hx]; exact HOKA.out.1) (by omega) (fun b off e => by cases e; rw [argO_new (Nat.le_refl _)]; exact ⟨by simp, fun i => by simp⟩)).mono ?_
    rintro e w13 ⟨rfl, hc⟩
    rw [(del_no (D := D) HUN.out HUFA.out).1]
    rw [(del_no (D := D) HUN.out HUFA.out).2] at hc
    obtain ⟨own13, hkw13, sm, fr⟩ := hkp.chg hc
    have HK13 : Hid (KT SR B0 bk bs t wid m D A w own w13 own13) := hkw13
    have HI13 : Hid (PinB w13 own13 w11.heap.size (.cells M1 80)) := hip.st sm fr
    have c0w13 := (KX.cells HK13.out.x).choose_spec.choose_spec.1
    have hT2 : (fun w' : World => w'.cell? ⟨bk, 0, none⟩ = some (.pointer (some ⟨bs, 0, none⟩)) ∧ w'.heap[w11.heap.size]? = some (.cells M1 80)) w13 := ⟨c0w13, HI13.out.1⟩
    refine ⟨hT2, ?_⟩
    try dsimp only
    try simp only [Act.put, List.getElem_toArray, List.getElem_cons_succ, List.getElem_cons_zero, List.setIfInBounds_toArray, List.set_cons_zero, List.set_cons_succ]
    refine wpAnyH_take (i := 10) (v := (.int .i64 9)) rfl (by kernel_rfl) (by kernel_rfl) (by kernel_rfl) (fun _ _ _ h => h) (Or.inl ⟨by rfl, fun wx hx => by go_simp⟩) hT2 ?_
    try dsimp only
    try simp only [Act.put, List.getElem_toArray, List.getElem_cons_succ, List.getElem_cons_zero, List.setIfInBounds_toArray, List.set_cons_zero, List.set_cons_succ]
    refine wpAnyH_done (by kernel_rfl) ?_ _
    clear hT0 hT1 hT2 hc hkw13 sm fr hkp hip hb1 R1 c0w12 c0w13
    have k1 : w13.cell? ⟨w11.heap.size, 1, none⟩ = some (.int .i64 o) := by rw [cell_of_row _ _ _ _ _ _ HI13.out.1, ← HG1.out.1]; exact HGA.out.get1
    have z1 : w13.frozen? ⟨w11.heap.size, 1, none⟩ = false := frozen_of_row _ _ _ _ _ HI13.out.1
    go_upto_region 15 with fail
    obtain ⟨w14, hww14⟩ : ∃ v, v = w13.setCell ⟨w11.heap.size, 1, none⟩ (.int .i64 4) := ⟨_, rfl⟩
    have HK14 : Hid (KT SR B0 bk bs t wid m D A w own w14 own13) := by unfold Hid; rw [hww14]; exact HK13.out.set HP.out.R HI13.out.2 HGL.out
    have HI14 : Hid (PinB w14 own13 w11.heap.size (.cells (M1.setIfInBounds 1 (.int .i64 4)) 80)) := by unfold Hid; rw [hww14]; exact ⟨heap_setCell_same _ _ _ _ _ _ HI13.out.1, HI13.out.2⟩
    obtain ⟨M2, hM2⟩ : ∃ v, v = M1.setIfInBounds 1 (.int .i64 4) := ⟨_, rfl⟩
    have HGB : Hid (IsIt M2 xB) := by unfold Hid; rw [hM2, HXB.out]; exact HGA.out.setWin _
    rw [← hM2] at HI14
    rw [← hww14]
    clear hww14 hM2 k1 z1
    try dsimp only
    try simp only [Act.put, List.getElem_toArray, List.getElem_cons_succ, List.getElem_cons_zero, List.setIfInBounds_toArray, List.set_cons_zero, List.set_cons_succ]
    go_upto_region 15 with fail
    have c0w14 := (KX.cells HK14.out.x).choose_spec.choose_spec.1
    have hT0 : (fun w' : World => w'.cell? ⟨bk, 0, none⟩ = some (.pointer (some ⟨bs, 0, none⟩)) ∧ w'.heap[w11.heap.size]? = some (.cells M2 80)) w14.drew := ⟨c0w14, HI14.out.1⟩
    refine wp_region_held (S := fun w' : World => w'.cell? ⟨bk, 0, none⟩ = some (.pointer (some ⟨bs, 0, none⟩)) ∧ w'.heap[w11.heap.size]? = some (.cells M2 80)) mixed ?_
    refine wpAnyH_take (i := 0) (v := (.pointer (some ⟨bk, 0, none⟩))) rfl (by kernel_rfl) (by kernel_rfl) (by kernel_rfl) (fun _ _ _ h => h) (Or.inl ⟨by rfl, fun wx hx => by go_simp⟩) hT0 ?_
    try dsimp only
    try simp only [Act.put, List.getElem_toArray, List.getElem_cons_succ, List.getElem_cons_zero, List.setIfInBounds_toArray, List.set_cons_zero, List.set_cons_succ]
    refine wpAnyH_take (i := 1) (v := (.pointer (some ⟨bk, 0, none⟩))) rfl (by kernel_rfl) (by kernel_rfl) (by kernel_rfl) (fun _ _ _ h => h) (Or.inl ⟨by rfl, fun wx hx => by go_simp⟩) hT0 ?_
    try dsimp only
    try simp only [Act.put, List.getElem_toArray, List.getElem_cons_succ, List.getElem_cons_zero, List.setIfInBounds_toArray, List.set_cons_zero, List.set_cons_succ]
    refine wpAnyH_take (i := 2) (v := (.pointer (some ⟨bk, 0, none⟩))) rfl (by kernel_rfl) (by kernel_rfl) (by kernel_rfl) (fun _ _ _ h => h) (Or.inl ⟨by rfl, fun wx hx => by go_simp⟩) hT0 ?_
    try dsimp only
    try simp only [Act.put, List.getElem_toArray, List.getElem_cons_succ, List.getElem_cons_zero, List.setIfInBounds_toArray, List.set_cons_zero, List.set_cons_succ]
    refine wpAnyH_take (i := 3) (v := (.pointer (some ⟨bs, 0, none⟩))) rfl (by kernel_rfl) (by kernel_rfl) (by kernel_rfl) (fun _ _ _ h => h) (Or.inl ⟨by rfl, fun wx hx => by have hx1 := hx.1; go_simp⟩) hT0 ?_
    try dsimp only
    try simp only [Act.put, List.getElem_toArray, List.getElem_cons_succ, List.getElem_cons_zero, List.setIfInBounds_toArray, List.set_cons_zero, List.set_cons_succ]
    refine wpAnyH_take (i := 4) (v := (.int .i64 up)) rfl (by kernel_rfl) (by kernel_rfl) (by kernel_rfl) (fun _ _ _ h => h) (Or.inl ⟨by rfl, fun wx hx => by go_simp⟩) hT0 ?_
    try dsimp only
    try simp only [Act.put, List.getElem_toArray, List.getElem_cons_succ, List.getElem_cons_zero, List.setIfInBounds_toArray, List.set_cons_zero, List.set_cons_succ]
    refine wpAnyH_take (i := 5) (v := (.int .i64 n)) rfl (by kernel_rfl) (by kernel_rfl) (by kernel_rfl) (fun _ _ _ h => h) (Or.inl ⟨by rfl, fun wx hx => by go_simp⟩) hT0 ?_
    try dsimp only
    try simp only [Act.put, List.getElem_toArray, List.getElem_cons_succ, List.getElem_cons_zero, List.setIfInBounds_toArray, List.set_cons_zero, List.set_cons_succ]
    refine wpAnyH_take (i := 6) (v := (.agg M2)) rfl (by kernel_rfl) (by kernel_rfl) (by kernel_rfl) (fun _ _ _ h => h) (yieldsIf_load_it (by rfl) _ rfl _ rfl M2 _ HGB.out (fun wx hx => hx.2)) hT0 ?_
    try dsimp only
    try simp only [Act.put, List.getElem_toArray, List.getElem_cons_succ, List.getElem_cons_zero, List.setIfInBounds_toArray, List.set_cons_zero, List.set_cons_succ]
    refine wpAnyH_take (i := 7) (v := (.agg M2)) rfl (by kernel_rfl) (by kernel_rfl) (by kernel_rfl) (fun _ _ _ h => h) (yieldsIf_load_it (by rfl) _ rfl _ rfl M2 _ HGB.out (fun wx hx => hx.2)) hT0 ?_
    try dsimp only
    try simp only [Act.put, List.getElem_toArray, List.getElem_cons_succ, List.getElem_cons_zero, List.setIfInBounds_toArray, List.set_cons_zero, List.set_cons_succ]
    refine wpAnyH_all (rs := [8]) (by kernel_rfl) (by simp) ?_
    intro jj hjj
    simp only [List.mem_cons, List.not_mem_nil, or_false] at hjj
    subst hjj
    refine wpOp_build2_it rfl rfl _ _ rfl M2 xB HGB.out rfl rfl ?_
    intro R1
    have hb1 : Below w14.heap.size w14 (w14.drew.alloc (.cells (flat clIt [xB, xB]).toArray 80)) := below_drawn' (below_alloc w14.drew _)
    have hT1 : (fun w' : World => w'.cell? ⟨bk, 0, none⟩ = some (.pointer (some ⟨bs, 0, none⟩)) ∧ w'.heap[w11.heap.size]? = some (.cells M2 80)) (w14.drew.alloc (.cells (flat clIt [xB, xB]).toArray 80)) := ⟨cell_keep hb1 c0w14, keep hb1 HI14.out.1⟩
    refine ⟨hT1, ?_⟩
    try dsimp only
    try simp only [Act.put, List.getElem_toArray, List.getElem_cons_succ, List.getElem_cons_zero, List.setIfInBounds_toArray, List.set_cons_zero, List.set_cons_succ]
    refine wpAnyH_all (rs := [9]) (by kernel_rfl) (by simp) ?_
    intro jj hjj
    simp only [List.mem_cons, List.not_mem_nil, or_false] at hjj
    subst hjj
    refine wpOp_build_pk2 rfl rfl _ _ rfl n _ 2 2 rfl rfl ?_
    refine ⟨hT1, ?_⟩
    try dsimp only
    try simp only [Act.put, List.getElem_toArray, List.getElem_cons_succ, List.getElem_cons_zero, List.setIfInBounds_toArray, List.set_cons_zero, List.set_cons_succ]
    refine wpAnyH_all (rs := [10]) (by kernel_rfl) (by simp) ?_
    intro jj hjj
    simp only [List.mem_cons, List.not_mem_nil, or_false] at hjj
    subst hjj
    refine wpOp_of_wp rfl rfl ?_
    go_simp
    have hkp := HK14.out.pin HP.out.R hb1
    have hip := HI14.out.pin hb1
    refine (HP.out.J.deliver _ (argO w14 own13) B0 bs t wid D hkp.st HDI.out hkp.x.b0 up n [xB, xB] _ 2 2 HUB.out.1 HUB.out.2 rfl R1 (allOkI_of fun x hx => by simp only [List.mem_cons, List.not_mem_nil, or_false, or_self] at hx; rw [hx]; exact HOKA.out.2.1) (by omega) (fun b off e => by cases e; rw [argO_new (Nat.le_refl _)]; exact ⟨by simp, fun i => by simp⟩)).mono ?_
    rintro e w15 ⟨rfl, hc⟩
    rw [(del_no (D := D) HUN.out HUFB.out).1]
    rw [(del_no (D := D) HUN.out HUFB.out).2] at hc
    obtain ⟨own15, hkw15, sm, fr⟩ := hkp.chg hc
    have HK15 : Hid (KT SR B0 bk bs t wid m D A w own w15 own15) := hkw15
    have HI15 : Hid (PinB w15 own15 w11.heap.size (.cells M2 80)) := hip.st sm fr
    have c0w15 := (KX.cells HK15.out.x).choose_spec.choose_spec.1
    have hT2 : (fun w' : World => w'.cell? ⟨bk, 0, none⟩ = some (.pointer (some ⟨bs, 0, none⟩)) ∧ w'.heap[w11.heap.size]? = some (.cells M2 80)) w15 := ⟨c0w15, HI15.out.1⟩
    refine ⟨hT2, ?_⟩
    try dsimp only
    try simp only [Act.put, List.getElem_toArray, List.getElem_cons_succ, List.getElem_cons_zero, List.setIfInBounds_toArray, List.set_cons_zero, List.set_cons_succ]
    refine wpAnyH_take (i := 11) (v := (.int .i64 9)) rfl (by kernel_rfl) (by kernel_rfl) (by kernel_rfl) (fun _ _ _ h => h) (Or.inl ⟨by rfl, fun wx hx => by go_simp⟩) hT2 ?_
    try dsimp only
    try simp only [Act.put, List.getElem_toArray, List.getElem_cons_succ, List.getElem_cons_zero, List.setIfInBounds_toArray, List.set_cons_zero, List.set_cons_succ]
    refine wpAnyH_done (by kernel_rfl) ?_ _
    clear hT0 hT1 hT2 hc hkw15 sm fr hkp hip hb1 R1 c0w14 c0w15
    have k1 : w15.cell? ⟨w11.heap.size, 2, none⟩ = some (.int .i64 1) := by rw [cell_of_row _ _ _ _ _ _ HI15.out.1, ← HG1.out.2]; exact HGB.out.get2
    have z1 : w15.frozen? ⟨w11.heap.size, 2, none⟩ = false := frozen_of_row _ _ _ _ _ HI15.out.1
    go_upto_region 17 with fail
    obtain ⟨w16, hww16⟩ : ∃ v, v = w15.setCell ⟨w11.heap.size, 2, none⟩ (.int .i64 (-1)) := ⟨_, rfl⟩
    have HK16 : Hid (KT SR B0 bk bs t wid m D A w own w16 own15) := by unfold Hid; rw [hww16]; exact HK15.out.set HP.out.R HI15.out.2 HGL.out
    have HI16 : Hid (PinB w16 own15 w11.heap.size (.cells (M2.setIfInBounds 2 (.int .i64 (-1))) 80)) := by unfold Hid; rw [hww16]; exact ⟨heap_setCell_same _ _ _ _ _ _ HI15.out.1, HI15.out.2⟩
    obtain ⟨M3, hM3⟩ : ∃ v, v = M2.setIfInBounds 2 (.int .i64 (-1)) := ⟨_, rfl⟩
    have HGC : Hid (IsIt M3 xC) := by unfold Hid; rw [hM3, HXC.out]; exact HGB.out.setVer _
    rw [← hM3] at HI16
    rw [← hww16]
    clear hww16 hM3 k1 z1
    try dsimp only
    try simp only [Act.put, List.getElem_toArray, List.getElem_cons_succ, List.getElem_cons_zero, List.setIfInBounds_toArray, List.set_cons_zero, List.set_cons_succ]
    go_upto_region 17 with fail
    have c0w16 := (KX.cells HK16.out.x).choose_spec.choose_spec.1
    have hT0 : (fun w' : World => w'.cell? ⟨bk, 0, none⟩ = some (.pointer (some ⟨bs, 0, none⟩)) ∧ w'.heap[w11.heap.size]? = some (.cells M3 80)) w16.drew := ⟨c0w16, HI16.out.1⟩
    refine wp_region_held (S := fun w' : World => w'.cell? ⟨bk, 0, none⟩ = some (.pointer (some ⟨bs, 0, none⟩)) ∧ w'.heap[w11.heap.size]? = some (.cells M3 80)) mixed ?_
    refine wpAnyH_take (i := 0) (v := (.pointer (some ⟨bk, 0, none⟩))) rfl (by kernel_rfl) (by kernel_rfl) (by kernel_rfl) (fun _ _ _ h => h) (Or.inl ⟨by rfl, fun wx hx => by go_simp⟩) hT0 ?_
    try dsimp only
    try simp only [Act.put, List.getElem_toArray, List.getElem_cons_succ, List.getElem_cons_zero, List.setIfInBounds_toArray, List.set_cons_zero, List.set_cons_succ]
    refine wpAnyH_take (i := 1) (v := (.pointer (some ⟨bk, 0, none⟩))) rfl (by kernel_rfl) (by kernel_rfl) (by kernel_rfl) (fun _ _ _ h => h) (Or.inl ⟨by rfl, fun wx hx => by go_simp⟩) hT0 ?_
    try dsimp only
    try simp only [Act.put, List.getElem_toArray, List.getElem_cons_succ, List.getElem_cons_zero, List.setIfInBounds_toArray, List.set_cons_zero, List.set_cons_succ]
    refine wpAnyH_take (i := 2) (v := (.pointer (some ⟨bk, 0, none⟩))) rfl (by kernel_rfl) (by kernel_rfl) (by kernel_rfl) (fun _ _ _ h => h) (Or.inl ⟨by rfl, fun wx hx => by go_simp⟩) hT0 ?_
    try dsimp only
    try simp only [Act.put, List.getElem_toArray, List.getElem_cons_succ, List.getElem_cons_zero, List.setIfInBounds_toArray, List.set_cons_zero, List.set_cons_succ]
    refine wpAnyH_take (i := 3) (v := (.pointer (some ⟨bs, 0, none⟩))) rfl (by kernel_rfl) (by kernel_rfl) (by kernel_rfl) (fun _ _ _ h => h) (Or.inl ⟨by rfl, fun wx hx => by have hx1 := hx.1; go_simp⟩) hT0 ?_
    try dsimp only
    try simp only [Act.put, List.getElem_toArray, List.getElem_cons_succ, List.getElem_cons_zero, List.setIfInBounds_toArray, List.set_cons_zero, List.set_cons_succ]
    refine wpAnyH_take (i := 4) (v := (.int .i64 up)) rfl (by kernel_rfl) (by kernel_rfl) (by kernel_rfl) (fun _ _ _ h => h) (Or.inl ⟨by rfl, fun wx hx => by go_simp⟩) hT0 ?_
    try dsimp only
    try simp only [Act.put, List.getElem_toArray, List.getElem_cons_succ, List.getElem_cons_zero, List.setIfInBounds_toArray, List.set_cons_zero, List.set_cons_succ]
    refine wpAnyH_take (i := 5) (v := (.int .i64 n)) rfl (by kernel_rfl) (by kernel_rfl) (by kernel_rfl) (fun _ _ _ h => h) (Or.inl ⟨by rfl, fun wx hx => by go_simp⟩) hT0 ?_
    try dsimp only
    try simp only [Act.put, List.getElem_toArray, List.getElem_cons_succ, List.getElem_cons_zero, List.setIfInBounds_toArray, List.set_cons_zero, List.set_cons_succ]
    refine wpAnyH_take (i := 6) (v := (.agg M3)) rfl (by kernel_rfl) (by kernel_rfl) (by kernel_rfl) (fun _ _ _ h => h) (yieldsIf_load_it (by rfl) _ rfl _ rfl M3 _ HGC.out (fun wx hx => hx.2)) hT0 ?_
    try dsimp only
    try simp only [Act.put, List.getElem_toArray, List.getElem_cons_succ, List.getElem_cons_zero, List.setIfInBounds_toArray, List.set_cons_zero, List.set_cons_succ]
    refine wpAnyH_all (rs := [7]) (by kernel_rfl) (by simp) ?_
    intro jj hjj
    simp only [List.mem_cons, List.not_mem_nil, or_false] at hjj
    subst hjj
    refine wpOp_build1_it rfl rfl _ rfl M3 xC HGC.out rfl ?_
    intro R1
    have hb1 : Below w16.heap.size w16 (w16.drew.alloc (.cells (flat clIt [xC]).toArray 80)) := below_drawn' (below_alloc w16.drew _)
    have hT1 : (fun w' : World => w'.cell? ⟨bk, 0, none⟩ = some (.pointer (some ⟨bs, 0, none⟩)) ∧ w'.heap[w11.heap.size]? = some (.cells M3 80)) (w16.drew.alloc (.cells (flat clIt [xC]).toArray 80)) := ⟨cell_keep hb1 c0w16, keep hb1 HI16.out.1⟩
    refine ⟨hT1, ?_⟩
    try dsimp only
    try simp only [Act.put, List.getElem_toArray, List.getElem_cons_succ, List.getElem_cons_zero, List.setIfInBounds_toArray, List.set_cons_zero, List.set_cons_succ]
    refine wpAnyH_all (rs := [8]) (by kernel_rfl) (by simp) ?_
    intro jj hjj
    simp only [List.mem_cons, List.not_mem_nil, or_false] at hjj
    subst hjj
    refine wpOp_build_pk2 rfl rfl _ _ rfl n _ 1 1 rfl rfl ?_
    refine ⟨hT1, ?_⟩
    try dsimp only
    try simp only [Act.put, List.getElem_toArray, List.getElem_cons_succ, List.getElem_cons_zero, List.setIfInBounds_toArray, List.set_cons_zero, List.set_cons_succ]
    refine wpAnyH_all (rs := [9]) (by kernel_rfl) (by simp) ?_
    intro jj hjj
    simp only [List.mem_cons, List.not_mem_nil, or_false] at hjj
    subst hjj
    refine wpOp_of_wp rfl rfl ?_
    go_simp
    have hkp := HK16.out.pin HP.out.R hb1
    have hip := HI16.out.pin hb1
    refine (HP.out.J.deliver _ (argO w16 own15) B0 bs t wid D hkp.st HDI.out hkp.x.b0 up n [xC] _ 1 1 HUB.out.1 HUB.out.2 rfl R1 (allOkI_of fun x hx => by simp only [List.mem_cons, List.not_mem_nil, or_false, or_self] at hx; rw [hx]; exact HOKA.out.2.2) (by omega) (fun b off e => by cases e; rw [argO_new (Nat.le_refl _)]; exact ⟨by simp, fun i => by simp⟩)).mono ?_
    rintro e w17 ⟨rfl, hc⟩
    rw [(del_no (D := D) HUN.out HUFC.out).1]
    rw [(del_no (D := D) HUN.out HUFC.out).2] at hc
    obtain ⟨own17, hkw17, sm, fr⟩ := hkp.chg hc
    have HK17 : Hid (KT SR B0 bk bs t wid m D A w own w17 own17) := hkw17
    have HI17 : Hid (PinB w17 own17 w11.heap.size (.cells M3 80)) := hip.st sm fr
    have c0w17 := (KX.cells HK17.out.x).choose_spec.choose_spec.1
    have hT2 : (fun w' : World => w'.cell? ⟨bk, 0, none⟩ = some (.pointer (some ⟨bs, 0, none⟩)) ∧ w'.heap[w11.heap.size]? = some (.cells M3 80)) w17 := ⟨c0w17, HI17.out.1⟩
    refine ⟨hT2, ?_⟩
    try dsimp only
    try simp only [Act.put, List.getElem_toArray, List.getElem_cons_succ, List.getElem_cons_zero, List.setIfInBounds_toArray, List.set_cons_zero, List.set_cons_succ]
    refine wpAnyH_take (i := 10) (v := (.int .i64 9)) rfl (by kernel_rfl) (by kernel_rfl) (by kernel_rfl) (fun _ _ _ h => h) (Or.inl ⟨by rfl, fun wx hx => by go_simp⟩) hT2 ?_
    try dsimp only
    try simp only [Act.put, List.getElem_toArray, List.getElem_cons_succ, List.getElem_cons_zero, List.setIfInBounds_toArray, List.set_cons_zero, List.set_cons_succ]
    refine wpAnyH_done (by kernel_rfl) ?_ _
    clear hT0 hT1 hT2 hc hkw17 sm fr hkp hip hb1 R1 c0w16 c0w17
    go_wp2
    go_ret
    exact ⟨rfl, HK17.out.kn⟩
end Go.Proofs.Ytpglbakcjihohab

/-! Refused: what the document refuses is refused with its error, and changes nothing. -/
namespace Go.Proofs.Ytpglbakcjihohab
open Go.RowKit
set_option maxRecDepth 100000

theorem rows_in {α : Type} {C : Cl α} {w : World} {p : Option Addr} {l : List α} (h : RowsAt C w p l) {b off : Nat} (e : p = some ⟨b, off, none⟩) (h0 : 0 < l.length) : b < w.heap.size := by
  obtain ⟨b', off', e', hb, _⟩ := h.pos 0 h0
  rw [e] at e'
  cases e'
  exact hb
theorem look_made {SR : SRT} (R : PR SR) {t : List Int} {wid : Int} {w w3 w4 : World} {bk bs m : Nat} {D : List Nd} {A : List (Int × List It)} {own : Ghost} (h : KO SR t wid w bk bs m D A w3 own) {vi vm va : Sl} {S : List Sl} (hl : ∀ own' : Ghost, (∀ k, w3.heap.size ≤ k → own' k = .arg) → LkAt w4 own' t D vi vm va S) (hb : Below w3.heap.size w3 w4) (z : Obj) {w5 : World} (hw : w5 = (w4.alloc z).setRow w4.heap.size #[vi.val, vm.val, va.val, .bool true]) (hz : ∃ c, z = .cells c 46) :
    Below w3.heap.size w3 w5 ∧ KO SR t wid w bk bs m D A w5 (argO w3 own) ∧ LkAt w5 (argO w3 own) t D vi vm va S ∧ PinB w5 (argO w3 own) w4.heap.size (.cells #[vi.val, vm.val, va.val, .bool true] 46) := by
  have hs := hb.size
  have hb45 : Below w4.heap.size w4 w5 := by rw [hw]; exact below_setRow _ (below_alloc _ _) (Nat.le_refl _)
  have hb5 := bnext hb hb45
  refine ⟨hb5, h.pin R hb5, (hl _ fun k hk => argO_new hk).below hb45, ?_, argO_new (by omega)⟩
  obtain ⟨c, rfl⟩ := hz
  rw [hw]; exact setRow_blk (heap_alloc_new _ _)
section
variable {ops : Array Oper} {rest : List Oper} {o : Oper} {a : Act} {w : World} {Q : Exit → Act → World → Prop}
theorem build2_int (hgd : o.guard = none) (x y : Operand) (ho : o.op = .buildSlice 22 2 #[(0, x), (1, y)]) (s r : Int) (hx : a.eval x = .int .i64 s) (hy : a.eval y = .int .i64 r)
    (h : RowsAt clInt (w.alloc (.cells (flat clInt [s, r]).toArray 3)) (some ⟨w.heap.size, 0, none⟩) [s, r] → wpList Try.prog ops Q rest (a.put o.dst (.slice (some ⟨w.heap.size, 0, none⟩) 2 2)) (w.alloc (.cells (flat clInt [s, r]).toArray 3))) : wpList Try.prog ops Q (o :: rest) a w :=
  wpList_buildCl hgd _ _ 8 slInt 2 _ ho [.int .i64 s, .int .i64 r] [s, r] (by simp [hx, hy]) (by rfl) rfl (by decide) (by decide) h
end
set_option maxHeartbeats 16000000 in
theorem kRefused_any (SR : SRT) (P : PA SR) (raw : List Int) (hf : ∀ x ∈ raw, fitsI x) (p : Option Addr) (n c : Nat) (wd : Int) (hwd : fitsI wd) (ps : Option Addr) (sn sc : Nat) (steps : List KSt) (w : World) (hn : raw.length = n) (hr : RowsAt clInt w p raw) (hm : n ≤ 1048576) (hs : steps.length = sn) (hrs : RowsAt clKs w ps steps) (hsm : sn ≤ 1048576) (hok : ∀ x ∈ steps, x.Ok)
    (nd : Int) (hnd : fitsI nd) (nn : Int) (hnn : fitsI nn) :
    Calls Try.prog 5 #[.slice p n c, .int .i64 wd, .slice ps sn sc, .int .i64 nd, .int .i64 nn] w fun e w' => e = .returned (.bool true) ∧ Below w.heap.size w w' := by
  have HP : Hid (PA SR) := P
  have H : Hid ((∀ x ∈ raw, fitsI x) ∧ RowsAt clInt w p raw ∧ RowsAt clKs w ps steps ∧ ∀ x ∈ steps, x.Ok) := ⟨hf, hr, hrs, hok⟩
  clear P hf hr hrs hok
  obtain ⟨wid, hwid⟩ : ∃ wid, wid = widK wd := ⟨_, rfl⟩
  have HWID : Hid (wid = widK wd) := hwid
  obtain ⟨t, ht⟩ : ∃ t, t = trK raw := ⟨_, rfl⟩
  have HTT : Hid (t = trK raw) := ht
  have HT : Hid (Tree t) := by unfold Hid; rw [ht]; exact trK_tree raw
  have h8 := HT.out.le
  obtain ⟨N, hN⟩ : ∃ N, t.length = N := ⟨_, rfl⟩
  have HN : Hid (t.length = N) := hN
  have hN1 : 1 ≤ N := by have := HT.out.pos; omega
  have hpn := pk_bd nd N (by omega)
  obtain ⟨nk, hnk⟩ : ∃ nk : Nat, pk nd N = nk := ⟨(pk nd N).toNat, by omega⟩
  have HPN : Hid (pk nd N = nk) := hnk
  have hnkN : nk < N := by omega
  obtain ⟨oN, hoN⟩ : ∃ oN, oN = outI nn N := ⟨_, rfl⟩
  have HON : Hid (outI nn N = oN ∧ fitsI oN ∧ isNd t oN = false) := ⟨hoN.symm, by rw [hoN]; exact outI_fits hnn (by omega) (by omega), by
    have := outI_out nn N (by omega)
    rw [← hoN] at this
    unfold isNd
    exact decide_eq_false (by omega)⟩
  obtain ⟨oW, hoW⟩ : ∃ oW, oW = outI nn 1000 := ⟨_, rfl⟩
  have HOW : Hid (outI nn 1000 = oW ∧ fitsI oW ∧ newE [-1, 1] oW = 1) := ⟨hoW.symm, by rw [hoW]; exact outI_fits hnn (by omega) (by omega), by unfold newE; rw [show isTr [-1, 1] = false by decide]; simp⟩
  obtain ⟨oX, hoX⟩ : ∃ oX, oX = outI nn 1001 := ⟨_, rfl⟩
  have HOX : Hid (outI nn 1001 = oX ∧ fitsI oX ∧ newE t oX = 8) := ⟨hoX.symm, by rw [hoX]; exact outI_fits hnn (by omega) (by omega), by
    have := outI_out nn 1001 (by omega)
    rw [← hoX] at this
    unfold newE
    rw [if_pos ((isTr_iff t).2 HT.out), if_neg (by simp [isWid]; omega)]⟩
  clear hwid ht hpn hnk hoN hoW hoX
  go_enter Try.func5, Try.ntmps5
  go_upto_region 6 with (first | (go_at_call 6; refine (kbegan_any SR HP.out.R raw H.out.1 p n c wd hwd w hn H.out.2.1 (by omega)).mono ?_; rintro e w1 ⟨hb1, bk, bs, own1, rfl, hk1, ha1⟩; rw [← HTT.out, ← HWID.out] at hk1; have HK : Hid (KO SR t wid w bk bs 0 (List.replicate t.length Nd.zero) [] w1 own1) := ⟨hk1, ha1, hb1⟩; clear hk1 ha1 hb1) | (go_at_call 7; refine (kplays_any SR HP.out w1 own1 w.heap.size bk bs t wid 0 _ [] HK.out.x ps sn sc steps hs (H.out.2.2.1.below HK.out.b) (by omega) H.out.2.2.2 (fun h0 b off e => HK.out.a b (rows_in H.out.2.2.1 e (by omega)))).mono ?_; rintro e w3 ⟨rfl, D, A, hkn3⟩; obtain ⟨own3, hko3, _, _⟩ := HK.out.next hkn3; have HK3 : Hid (KO SR t wid w bk bs (0 + sn) D A w3 own3) := hko3; clear hkn3 hko3) | (go_at_call 14; refine (klook_any SR HP.out.R w3 own3 w.heap.size bk bs t wid (0 + sn) D A HK3.out.x (by omega)).mono ?_; rintro e w4 ⟨vi, vm, va, S, rfl, hl4, hb4⟩; obtain ⟨ip, il, ic⟩ := vi; obtain ⟨mp, ml, mc⟩ := vm; obtain ⟨ap, al, ac⟩ := va; have HL4 : Hid ((∀ own' : Ghost, (∀ k, w3.heap.size ≤ k → own' k = .arg) → LkAt w4 own' t D ⟨ip, il, ic⟩ ⟨mp, ml, mc⟩ ⟨ap, al, ac⟩ S) ∧ Below w3.heap.size w3 w4) := ⟨hl4, hb4⟩; clear hl4 hb4; dsimp only [Sl.val]) | (refine alloc_lk rfl rfl ?_) | (refine store_lk_new rfl _ _ rfl ⟨ip, il, ic⟩ ⟨mp, ml, mc⟩ ⟨ap, al, ac⟩ true w4 #[.slice none 0 0, .slice none 0 0, .slice none 0 0, .bool false] rfl rfl rfl rfl ?_))
  rename World => w4
  dsimp only [Sl.val]
  obtain ⟨w5, hw5⟩ : ∃ w5, w5 = (w4.alloc (.cells #[.slice none 0 0, .slice none 0 0, .slice none 0 0, .bool false] 46)).setRow w4.heap.size #[.slice ip il ic, .slice mp ml mc, .slice ap al ac, .bool true] := ⟨_, rfl⟩
  have HL5 : Hid (KO SR t wid w bk bs (0 + sn) D A w5 (argO w3 own3) ∧ LkAt w5 (argO w3 own3) t D ⟨ip, il, ic⟩ ⟨mp, ml, mc⟩ ⟨ap, al, ac⟩ S ∧ PinB w5 (argO w3 own3) w4.heap.size (.cells #[.slice ip il ic, .slice mp ml mc, .slice ap al ac, .bool true] 46)) := (look_made HP.out.R HK3.out HL4.out.1 HL4.out.2 _ hw5 ⟨_, rfl⟩).2
  obtain ⟨own5, hown5⟩ : ∃ own5, own5 = argO w3 own3 := ⟨_, rfl⟩
  rw [← hown5] at HL5
  obtain ⟨mm, hmm0⟩ : ∃ mm, mm = 0 + sn := ⟨_, rfl⟩
  have hmm : mm < 100000000 := by omega
  rw [← hmm0] at HL5
  have HGD : Hid (∀ k : Nat, k < t.length → AllOkI (lvAt t D k) ∧ (lvAt t D k).length ≤ 160) := fun k hk => by
    have hx := HL5.out.1.x
    have := lvAt_good hx.inv h8 (by omega) hx.di hx.ev k hk
    exact ⟨this.ok, this.len⟩
  rw [← hw5]
  clear hw5 HL4 HK HK3 hown5 hmm0
  try dsimp only
  try simp only [Act.put, List.getElem_toArray, List.getElem_cons_succ, List.getElem_cons_zero, List.setIfInBounds_toArray, List.set_cons_zero, List.set_cons_succ]
  obtain ⟨tp, tc, c0, c1, c2, _⟩ := HL5.out.1.x.cells
  rw [hN] at c1
  clear c2
  go_upto_region 7 with (go_at_call 10; refine (pick_any nd N _ hnd.1 hnd.2 (by omega) (by omega)).mono ?_; rintro e wA ⟨rfl, hwA⟩; have hwA := hwA.symm; subst hwA; rw [HPN.out])
  have hT0 : (fun w' : World => w'.cell? ⟨bk, 0, none⟩ = some (.pointer (some ⟨bs, 0, none⟩)) ∧ w'.cell? ⟨bk, 1, none⟩ = some (.slice tp N tc)) w5.drew := ⟨c0, c1⟩
  refine wp_region_held (S := fun w' : World => w'.cell? ⟨bk, 0, none⟩ = some (.pointer (some ⟨bs, 0, none⟩)) ∧ w'.cell? ⟨bk, 1, none⟩ = some (.slice tp N tc)) mixed ?_
  refine wpAnyH_take (i := 0) (v := (.pointer (some ⟨bk, 0, none⟩))) rfl (by kernel_rfl) (by kernel_rfl) (by kernel_rfl) (fun _ _ _ h => h) (Or.inl ⟨by rfl, fun wx hx => by go_simp⟩) hT0 ?_
  try dsimp only
  try simp only [Act.put, List.getElem_toArray, List.getElem_cons_succ, List.getElem_cons_zero, List.setIfInBounds_toArray, List.set_cons_zero, List.set_cons_succ]
  refine wpAnyH_take (i := 1) (v := (.pointer (some ⟨bk, 0, none⟩))) rfl (by kernel_rfl) (by kernel_rfl) (by kernel_rfl) (fun _ _ _ h => h) (Or.inl ⟨by rfl, fun wx hx => by go_simp⟩) hT0 ?_
  try dsimp only
  try simp only [Act.put, List.getElem_toArray, List.getElem_cons_succ, List.getElem_cons_zero, List.setIfInBounds_toArray, List.set_cons_zero, List.set_cons_succ]
  refine wpAnyH_take (i := 2) (v := (.pointer (some ⟨bk, 0, none⟩))) rfl (by kernel_rfl) (by kernel_rfl) (by kernel_rfl) (fun _ _ _ h => h) (Or.inl ⟨by rfl, fun wx hx => by go_simp⟩) hT0 ?_
  try dsimp only
  try simp only [Act.put, List.getElem_toArray, List.getElem_cons_succ, List.getElem_cons_zero, List.setIfInBounds_toArray, List.set_cons_zero, List.set_cons_succ]
  refine wpAnyH_take (i := 3) (v := (.pointer (some ⟨bs, 0, none⟩))) rfl (by kernel_rfl) (by kernel_rfl) (by kernel_rfl) (fun _ _ _ h => h) (Or.inl ⟨by rfl, fun wx hx => by have hx1 := hx.1; go_simp⟩) hT0 ?_
  try dsimp only
  try simp only [Act.put, List.getElem_toArray, List.getElem_cons_succ, List.getElem_cons_zero, List.setIfInBounds_toArray, List.set_cons_zero, List.set_cons_succ]
  refine wpAnyH_take (i := 4) (v := (.int .i64 nn)) rfl (by kernel_rfl) (by kernel_rfl) (by kernel_rfl) (fun _ _ _ h => h) (Or.inl ⟨by rfl, fun wx hx => by go_simp⟩) hT0 ?_
  try dsimp only
  try simp only [Act.put, List.getElem_toArray, List.getElem_cons_succ, List.getElem_cons_zero, List.setIfInBounds_toArray, List.set_cons_zero, List.set_cons_succ]
  refine wpAnyH_take (i := 5) (v := (.pointer (some ⟨bk, 0, none⟩))) rfl (by kernel_rfl) (by kernel_rfl) (by kernel_rfl) (fun _ _ _ h => h) (Or.inl ⟨by rfl, fun wx hx => by go_simp⟩) hT0 ?_
  try dsimp only
  try simp only [Act.put, List.getElem_toArray, List.getElem_cons_succ, List.getElem_cons_zero, List.setIfInBounds_toArray, List.set_cons_zero, List.set_cons_succ]
  refine wpAnyH_take (i := 6) (v := (.pointer (some ⟨bk, 0, none⟩))) rfl (by kernel_rfl) (by kernel_rfl) (by kernel_rfl) (fun _ _ _ h => h) (Or.inl ⟨by rfl, fun wx hx => by go_simp⟩) hT0 ?_
  try dsimp only
  try simp only [Act.put, List.getElem_toArray, List.getElem_cons_succ, List.getElem_cons_zero, List.setIfInBounds_toArray, List.set_cons_zero, List.set_cons_succ]
  refine wpAnyH_take (i := 7) (v := (.pointer (some ⟨bk, 1, none⟩))) rfl (by kernel_rfl) (by kernel_rfl) (by kernel_rfl) (fun _ _ _ h => h) (Or.inl ⟨by rfl, fun wx hx => by go_simp⟩) hT0 ?_
  try dsimp only
  try simp only [Act.put, List.getElem_toArray, List.getElem_cons_succ, List.getElem_cons_zero, List.setIfInBounds_toArray, List.set_cons_zero, List.set_cons_succ]
  refine wpAnyH_take (i := 8) (v := (.slice tp N tc)) rfl (by kernel_rfl) (by kernel_rfl) (by kernel_rfl) (fun _ _ _ h => h) (Or.inl ⟨by rfl, fun wx hx => by have hx1 := hx.2; go_simp⟩) hT0 ?_
  try dsimp only
  try simp only [Act.put, List.getElem_toArray, List.getElem_cons_succ, List.getElem_cons_zero, List.setIfInBounds_toArray, List.set_cons_zero, List.set_cons_succ]
  refine wpAnyH_take (i := 9) (v := (.int .i64 N)) rfl (by kernel_rfl) (by kernel_rfl) (by kernel_rfl) (fun _ _ _ h => h) (Or.inl ⟨by rfl, fun wx hx => by go_simp⟩) hT0 ?_
  try dsimp only
  try simp only [Act.put, List.getElem_toArray, List.getElem_cons_succ, List.getElem_cons_zero, List.setIfInBounds_toArray, List.set_cons_zero, List.set_cons_succ]
  refine wpAnyH_all (rs := [10]) (by kernel_rfl) (by simp) ?_
  intro jj hjj
  simp only [List.mem_cons, List.not_mem_nil, or_false] at hjj
  subst hjj
  refine wpOp_of_wp rfl rfl ?_
  go_simp
  refine (koutside_any nn N w5.drew hnn (by omega) (by omega)).mono ?_
  rintro e w2 ⟨rfl, hw2⟩
  subst hw2
  rw [HON.out.1]
  refine ⟨hT0, ?_⟩
  try dsimp only
  try simp only [Act.put, List.getElem_toArray, List.getElem_cons_succ, List.getElem_cons_zero, List.setIfInBounds_toArray, List.set_cons_zero, List.set_cons_succ]
  refine wpAnyH_all (rs := [11]) (by kernel_rfl) (by simp) ?_
  intro jj hjj
  simp only [List.mem_cons, List.not_mem_nil, or_false] at hjj
  subst hjj
  refine wpOp_of_wp rfl rfl ?_
  go_simp
  refine (knodes_any SR HP.out w5.drew own5 w.heap.size bk bs t wid mm D A (HL5.out.1.x.below HP.out.R below_drew) hmm oN HON.out.2.1 HON.out.2.2).mono ?_
  rintro e w6 ⟨rfl, ownK, hkt⟩
  have hkn' : KN SR w.heap.size bk bs t wid mm D A w5 own5 w6 := KN.mk below_drew (fun _ _ => rfl) hkt.kn
  have HL6 : Hid (∃ own6, KO SR t wid w bk bs mm D A w6 own6 ∧ LkAt w6 own6 t D ⟨ip, il, ic⟩ ⟨mp, ml, mc⟩ ⟨ap, al, ac⟩ S ∧ PinB w6 own6 w4.heap.size (.cells #[.slice ip il ic, .slice mp ml mc, .slice ap al ac, .bool true] 46)) := by
    obtain ⟨own6, a1, a2, a3⟩ := HL5.out.1.next hkn'
    exact ⟨own6, a1, HL5.out.2.1.next a2 a3, HL5.out.2.2.next a2 a3⟩
  have hT1 : (fun w' : World => w'.cell? ⟨bk, 0, none⟩ = some (.pointer (some ⟨bs, 0, none⟩)) ∧ w'.cell? ⟨bk, 1, none⟩ = some (.slice tp N tc)) w6 := by
    obtain ⟨_, _, _, _, _, _, _, hgm, _⟩ := HL5.out.1.x.cells
    have nb : own5 bk ≠ .free ∧ ¬ isSt (own5 bk) := by rw [hgm]; exact ⟨by simp, fun ⟨i, e⟩ => by simp at e⟩
    exact ⟨cell_fr' hkt.f (show w5.drew.cell? _ = _ from c0) nb.1 nb.2, cell_fr' hkt.f (show w5.drew.cell? _ = _ from c1) nb.1 nb.2⟩
  refine ⟨hT1, ?_⟩
  try dsimp only
  try simp only [Act.put, List.getElem_toArray, List.getElem_cons_succ, List.getElem_cons_zero, List.setIfInBounds_toArray, List.set_cons_zero, List.set_cons_succ]
  refine wpAnyH_take (i := 12) (v := (.bool true)) rfl (by kernel_rfl) (by kernel_rfl) (by kernel_rfl) (fun _ _ _ h => h) (Or.inl ⟨by rfl, fun wx hx => by go_simp⟩) hT1 ?_
  try dsimp only
  try simp only [Act.put, List.getElem_toArray, List.getElem_cons_succ, List.getElem_cons_zero, List.setIfInBounds_toArray, List.set_cons_zero, List.set_cons_succ]
  refine wpAnyH_done (by kernel_rfl) ?_ _
  clear hT0 hT1 hkt hkn' c0 c1
  obtain ⟨own6, hl6⟩ := HL6.out
  have HK6 : Hid (KO SR t wid w bk bs mm D A w6 own6 ∧ LkAt w6 own6 t D ⟨ip, il, ic⟩ ⟨mp, ml, mc⟩ ⟨ap, al, ac⟩ S ∧ PinB w6 own6 w4.heap.size (.cells #[.slice ip il ic, .slice mp ml mc, .slice ap al ac, .bool true] 46)) := hl6
  clear hl6 HL6 HL5
  go_upto_region 10 with (first | (go_at_call 21; refine (ktimes_any SR HP.out w6 own6 w.heap.size bk bs t wid mm D A HK6.out.1.x hmm nk (by omega) nn hnn).mono ?_; rintro e w7 ⟨rfl, hkn⟩; obtain ⟨own7, a1, a2, a3⟩ := HK6.out.1.next hkn; have HK7 : Hid (KO SR t wid w bk bs mm D A w7 own7 ∧ LkAt w7 own7 t D ⟨ip, il, ic⟩ ⟨mp, ml, mc⟩ ⟨ap, al, ac⟩ S ∧ PinB w7 own7 w4.heap.size (.cells #[.slice ip il ic, .slice mp ml mc, .slice ap al ac, .bool true] 46)) := ⟨a1, HK6.out.2.1.next a2 a3, HK6.out.2.2.next a2 a3⟩; clear hkn a1 a2 a3) | (go_at_call 22; refine (kpackets_any SR HP.out w7 own7 w.heap.size bk bs t wid mm D A HK7.out.1.x hmm nk (by omega) nn hnn).mono ?_; rintro e w8 ⟨rfl, hkn⟩; obtain ⟨own8, a1, a2, a3⟩ := HK7.out.1.next hkn; have HK8 : Hid (KO SR t wid w bk bs mm D A w8 own8 ∧ LkAt w8 own8 t D ⟨ip, il, ic⟩ ⟨mp, ml, mc⟩ ⟨ap, al, ac⟩ S ∧ PinB w8 own8 w4.heap.size (.cells #[.slice ip il ic, .slice mp ml mc, .slice ap al ac, .bool true] 46)) := ⟨a1, HK7.out.2.1.next a2 a3, HK7.out.2.2.next a2 a3⟩; clear hkn a1 a2 a3))
  rename World => w8
  go_upto_region 11 with (first | (go_at_call 14; refine (klook_any SR HP.out.R w8 own8 w.heap.size bk bs t wid mm D A HK8.out.1.x hmm).mono ?_; rintro e w9 ⟨vi, vm, va, S2, rfl, hl9, hb9⟩; obtain ⟨ip2, il2, ic2⟩ := vi; obtain ⟨mp2, ml2, mc2⟩ := vm; obtain ⟨ap2, al2, ac2⟩ := va; have HL9 : Hid ((∀ own' : Ghost, (∀ k, w8.heap.size ≤ k → own' k = .arg) → LkAt w9 own' t D ⟨ip2, il2, ic2⟩ ⟨mp2, ml2, mc2⟩ ⟨ap2, al2, ac2⟩ S2) ∧ Below w8.heap.size w8 w9) := ⟨hl9, hb9⟩; clear hl9 hb9; dsimp only [Sl.val]) | (refine alloc_lk rfl rfl ?_) | (refine store_lk_new rfl _ _ rfl ⟨ip2, il2, ic2⟩ ⟨mp2, ml2, mc2⟩ ⟨ap2, al2, ac2⟩ true w9 #[.slice none 0 0, .slice none 0 0, .slice none 0 0, .bool false] rfl rfl rfl rfl ?_))
  rename World => w9
  dsimp only [Sl.val]
  obtain ⟨wA, hwA⟩ : ∃ wA, wA = (w9.alloc (.cells #[.slice none 0 0, .slice none 0 0, .slice none 0 0, .bool false] 46)).setRow w9.heap.size #[.slice ip2 il2 ic2, .slice mp2 ml2 mc2, .slice ap2 al2 ac2, .bool true] := ⟨_, rfl⟩
  have HLA : Hid (KO SR t wid w bk bs mm D A wA (argO w8 own8) ∧ (LkAt wA (argO w8 own8) t D ⟨ip2, il2, ic2⟩ ⟨mp2, ml2, mc2⟩ ⟨ap2, al2, ac2⟩ S2 ∧ PinB wA (argO w8 own8) w9.heap.size (.cells #[.slice ip2 il2 ic2, .slice mp2 ml2 mc2, .slice ap2 al2 ac2, .bool true] 46)) ∧ LkAt wA (argO w8 own8) t D ⟨ip, il, ic⟩ ⟨mp, ml, mc⟩ ⟨ap, al, ac⟩ S ∧ PinB wA (argO w8 own8) w4.heap.size (.cells #[.slice ip il ic, .slice mp ml mc, .slice ap al ac, .bool true] 46)) := by
    obtain ⟨a1, a2, a3, a4⟩ := look_made HP.out.R HK8.out.1 HL9.out.1 HL9.out.2 _ hwA ⟨_, rfl⟩
    exact ⟨a2, ⟨a3, a4⟩, HK8.out.2.1.pin a1, HK8.out.2.2.pin a1⟩
  rw [← hwA]
  clear hwA HL9 HK8 HK6 HK7
  try dsimp only
  try simp only [Act.put, List.getElem_toArray, List.getElem_cons_succ, List.getElem_cons_zero, List.setIfInBounds_toArray, List.set_cons_zero, List.set_cons_succ]
  go_upto_region 12 with (first | (refine load_lk rfl _ rfl w4.heap.size rfl _ _ _ _ (by exact HLA.out.2.2.2.1) ?_) | (refine load_lk rfl _ rfl w9.heap.size rfl _ _ _ _ (by exact HLA.out.2.1.2.1) ?_) | (go_at_call 18; refine (kalike_any wA (argO w8 own8) (argO w8 own8) t h8 D D ⟨ip, il, ic⟩ ⟨mp, ml, mc⟩ ⟨ap, al, ac⟩ ⟨ip2, il2, ic2⟩ ⟨mp2, ml2, mc2⟩ ⟨ap2, al2, ac2⟩ S S2 HLA.out.2.2.1 HLA.out.2.1.1 (-1) ⟨by omega, by omega⟩ HGD.out (fun _ _ _ => ⟨rfl, rfl⟩)).mono ?_; rintro e wB ⟨rfl, hbB⟩; have HBB : Hid (Below wA.heap.size wA wB) := hbB; clear hbB))
  rename World => wB
  obtain ⟨tpB, tcB, d0, d1, d2, htrB, _⟩ := (HLA.out.1.x.below HP.out.R HBB.out).cells
  have HTRB : Hid (RowsAt clInt wB tpB t) := htrB
  have HBW : Hid (Below w.heap.size w wB) := bnext HLA.out.1.b HBB.out
  rw [hN] at d1
  clear d0 d2 htrB HLA
  go_upto_region 13 with (first | (refine build2_int rfl _ _ rfl (-1) 1 rfl rfl ?_; intro R1) | (go_at_call 20; refine (koutside_any nn 1000 _ hnn (by omega) (by omega)).mono ?_; rintro e wX ⟨rfl, hwX⟩; have hwX := hwX.symm; subst hwX; rw [HOW.out.1]) | (go_at_call 23; refine (HP.out.R.new [-1, 1] _ 2 2 oW _ rfl R1 (by omega) HOW.out.2.1).mono ?_; rintro e wC ⟨hbC, h2⟩; obtain ⟨_, rfl⟩ := h2.resolve_left (fun x => by have := HOW.out.2.2; omega); rw [HOW.out.2.2]; have HBC : Hid (Below wB.heap.size wB wC) := bnext (below_alloc _ _) hbC; have f1 := cell_keep HBC.out d1; clear hbC h2 R1 d1))
  rename World => wC
  go_upto_region 16 with (go_at_call 20; refine (koutside_any nn 1001 _ hnn (by omega) (by omega)).mono ?_; rintro e wX ⟨rfl, hwX⟩; have hwX := hwX.symm; subst hwX; rw [HOX.out.1])
  go_wp2_with (first | (go_at_call 24; refine (kcopied_any t tpB N tcB wC HN.out (HTRB.out.below HBC.out) (by omega)).mono ?_; rintro e wD ⟨q, cc, rfl, hr1, _, hbD⟩; have HRD : Hid (RowsAt clInt wD q t) := hr1; have HBD : Hid (Below wC.heap.size wC wD) := hbD; clear hr1 hbD f1) | (go_at_call 23; refine (HP.out.R.new t _ N _ oX wD HN.out HRD.out (by omega) HOX.out.2.1).mono ?_; rintro e wE ⟨hbE, h2⟩; obtain ⟨_, rfl⟩ := h2.resolve_left (fun x => by have := HOX.out.2.2; omega); rw [HOX.out.2.2]; have HBE : Hid (Below w.heap.size w wE) := bnext (bnext (bnext HBW.out HBC.out) HBD.out) hbE; clear hbE h2))
  go_ret
  exact ⟨rfl, HBE.out⟩
end Go.Proofs.Ytpglbakcjihohab
