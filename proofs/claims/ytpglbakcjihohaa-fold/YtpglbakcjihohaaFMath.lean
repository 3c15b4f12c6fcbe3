/-
  The sketch of a list of events: how many, their sum, the least, the greatest; cut anywhere the pieces merge to the whole; a key that was there changes no register (no program is named here).
-/
import Derived.Test.YtpglbakcjihohaaHMath
namespace Go.Proofs.Ytpglbakcjihohaa
open Go.RowKit
set_option maxRecDepth 100000

theorem Sk.ext' {a b : Sk} (hc : a.c = b.c) (hs : a.s = b.s) (hl : a.l = b.l) (hg : a.g = b.g) (hr : ∀ k, a.r k = b.r k) (hh : ∀ k, a.h k = b.h k) : a = b := by
  cases a; cases b; simp at hc hs hl hg hr hh; simp [hc, hs, hl, hg, funext hr, funext hh]
theorem mrgComm (a b : Sk) : mrg a b = mrg b a :=
  Sk.ext' (by show min _ _ = min _ _; omega) (by show (a.s + b.s) % _ = (b.s + a.s) % _; omega) (by show min _ _ = min _ _; omega) (by show max _ _ = max _ _; omega)
    (fun k => by show max _ _ = max _ _; omega) (fun k => by show min _ _ = min _ _; omega)
theorem mrgAssoc {a b c : Sk} (oka : a.Ok) (okb : b.Ok) (okc : c.Ok) : mrg (mrg a b) c = mrg a (mrg b c) := by
  have h0 := oka.c0; have h1 := okb.c0; have h2 := okc.c0
  refine Sk.ext' ?_ ?_ ?_ ?_ (fun k => ?_) (fun k => ?_)
  · show min (min (a.c + b.c) 65535 + c.c) 65535 = min (a.c + min (b.c + c.c) 65535) 65535; omega
  · show ((a.s + b.s) % 4294967296 + c.s) % 4294967296 = (a.s + (b.s + c.s) % 4294967296) % 4294967296; omega
  · show min (min a.l b.l) c.l = min a.l (min b.l c.l); omega
  · show max (max a.g b.g) c.g = max a.g (max b.g c.g); omega
  · show max (max (a.r k) (b.r k)) (c.r k) = max (a.r k) (max (b.r k) (c.r k)); omega
  · have := oka.h0 k; have := okb.h0 k; have := okc.h0 k
    show min (min (a.h k + b.h k) 255 + c.h k) 255 = min (a.h k + min (b.h k + c.h k) 255) 255; omega
theorem mrgEmpty {s : Sk} (ok : s.Ok) : mrg Sk.empty s = s := by
  have h0 := ok.c0; have h1 := ok.c1; have h2 := ok.s0; have h3 := ok.s1; have h4 := ok.l0; have h5 := ok.l1; have h6 := ok.g0; have h7 := ok.g1
  refine Sk.ext' ?_ ?_ ?_ ?_ (fun k => ?_) (fun k => ?_)
  · show min (0 + s.c) 65535 = s.c; omega
  · show (0 + s.s) % 4294967296 = s.s; omega
  · show min 2147483647 s.l = s.l; omega
  · show max (-2147483648) s.g = s.g; omega
  · have := ok.r0 k; show max 0 (s.r k) = s.r k; omega
  · have := ok.h0 k; have := ok.h1 k; show min (0 + s.h k) 255 = s.h k; omega

/-- An event: its key, its value. -/
structure Ev where
  key : ByteArray
  v : Int
structure Ev.Ok (e : Ev) : Prop where
  len : e.key.size ≤ maxLen
  v0 : -2147483648 ≤ e.v
  v1 : e.v ≤ 2147483647
def Ev.sk (e : Ev) : Sk := one e.key.data.toList e.v
theorem Ev.Ok.sk {e : Ev} (h : e.Ok) : e.sk.Ok := one_ok _ _ h.v0 h.v1
def Fgo (s : Sk) : List Ev → Sk
  | [] => s
  | e :: l => Fgo (mrg s e.sk) l
def F (l : List Ev) : Sk := Fgo Sk.empty l
def AllOk (l : List Ev) : Prop := ∀ e ∈ l, e.Ok
theorem Fgo_append : ∀ (x y : List Ev) (s : Sk), Fgo s (x ++ y) = Fgo (Fgo s x) y
  | [], _, _ => rfl
  | _ :: x, y, _ => Fgo_append x y _
theorem Fgo_ok : ∀ (l : List Ev) (s : Sk), s.Ok → AllOk l → (Fgo s l).Ok
  | [], _, h, _ => h
  | e :: l, _, h, ha => Fgo_ok l _ (mrg_ok h (ha e (by simp)).sk) (fun x hx => ha x (by simp [hx]))
theorem F_ok (l : List Ev) (h : AllOk l) : (F l).Ok := Fgo_ok l _ Sk.empty_ok h
theorem Fgo_mrg : ∀ (l : List Ev) (s : Sk), s.Ok → AllOk l → Fgo s l = mrg s (F l)
  | [], s, h, _ => by show s = mrg s Sk.empty; rw [mrgComm, mrgEmpty h]
  | e :: l, s, h, ha => by
    have he := (ha e (by simp)).sk
    have hl : AllOk l := fun x hx => ha x (by simp [hx])
    have h1 : Fgo s (e :: l) = mrg (mrg s e.sk) (F l) := Fgo_mrg l _ (mrg_ok h he) hl
    have h2 : F (e :: l) = mrg (mrg Sk.empty e.sk) (F l) := Fgo_mrg l _ (mrg_ok Sk.empty_ok he) hl
    rw [h1, h2, mrgEmpty he, mrgAssoc h he (F_ok l hl)]
theorem F_cons (e : Ev) (l : List Ev) (he : e.Ok) (hl : AllOk l) : F (e :: l) = mrg e.sk (F l) := by
  have h2 : F (e :: l) = mrg (mrg Sk.empty e.sk) (F l) := Fgo_mrg l _ (mrg_ok Sk.empty_ok he.sk) hl
  rw [h2, mrgEmpty he.sk]
theorem F_append (x y : List Ev) (hx : AllOk x) (hy : AllOk y) : F (x ++ y) = mrg (F x) (F y) := by
  show Fgo Sk.empty (x ++ y) = _
  rw [Fgo_append]; exact Fgo_mrg y _ (F_ok x hx) hy
theorem F_snoc (l : List Ev) (e : Ev) : F (l ++ [e]) = mrg (F l) e.sk := by show Fgo Sk.empty (l ++ [e]) = _; rw [Fgo_append]; rfl
theorem AllOk.take {l : List Ev} (h : AllOk l) (k : Nat) : AllOk (l.take k) := fun e he => h e (List.mem_of_mem_take he)
theorem AllOk.drop {l : List Ev} (h : AllOk l) (k : Nat) : AllOk (l.drop k) := fun e he => h e (List.mem_of_mem_drop he)
theorem F_take (l : List Ev) (k : Nat) (h : k < l.length) : F (l.take (k + 1)) = mrg (F (l.take k)) l[k].sk := by
  rw [List.take_succ_eq_append_getElem h, F_snoc]
theorem F_cut (l : List Ev) (k : Nat) (h : AllOk l) : mrg (F (l.drop k)) (F (l.take k)) = F l := by
  rw [mrgComm, ← F_append _ _ (h.take k) (h.drop k), List.take_append_drop]
theorem F_count : ∀ (l : List Ev), AllOk l → (F l).c = min (l.length : Int) 65535
  | [], _ => rfl
  | e :: l, h => by
    have hl : AllOk l := fun x hx => h x (by simp [hx])
    rw [F_cons e l (h e (by simp)) hl]
    show min (1 + (F l).c) 65535 = _
    rw [F_count l hl]; simp only [List.length_cons]; omega
theorem hist_le : ∀ (l : List Ev), AllOk l → ∀ j, (F l).h j ≤ (l.length : Int)
  | [], _, _ => by show (0 : Int) ≤ _; simp
  | e :: l, h, j => by
    have hl : AllOk l := fun x hx => h x (by simp [hx])
    rw [F_cons e l (h e (by simp)) hl]
    have := hist_le l hl j
    show min ((if j = bkt e.v then 1 else 0) + (F l).h j) 255 ≤ _
    simp only [List.length_cons]
    split <;> omega
theorem hsum_step (e : Ev) (t : Sk) : ∀ n, hsum (mrg e.sk t) n ≤ hsum t n + (if bkt e.v < n then 1 else 0)
  | 0 => by simp [hsum]
  | n + 1 => by
    have := hsum_step e t n
    simp only [hsum]
    have hh : (mrg e.sk t).h n = min ((if n = bkt e.v then 1 else 0) + t.h n) 255 := rfl
    rw [hh]
    by_cases h1 : n = bkt e.v
    · rw [if_pos h1, if_pos (by omega)]; rw [if_neg (by omega)] at this; omega
    · rw [if_neg h1]
      by_cases h2 : bkt e.v < n
      · rw [if_pos (by omega)]; rw [if_pos h2] at this; omega
      · rw [if_neg (by omega)]; rw [if_neg h2] at this; omega
theorem hsum_step_eq (e : Ev) (t : Sk) (ht : ∀ k, 0 ≤ t.h k) (hs : ∀ k, t.h k ≤ 254) : ∀ n, hsum (mrg e.sk t) n = hsum t n + (if bkt e.v < n then 1 else 0)
  | 0 => by simp [hsum]
  | n + 1 => by
    have := hsum_step_eq e t ht hs n
    have h0 := ht n
    have h1 := hs n
    simp only [hsum]
    have hh : (mrg e.sk t).h n = min ((if n = bkt e.v then 1 else 0) + t.h n) 255 := rfl
    rw [hh]
    by_cases h1 : n = bkt e.v
    · rw [if_pos h1, if_pos (by omega)]; rw [if_neg (by omega)] at this; omega
    · rw [if_neg h1]
      by_cases h2 : bkt e.v < n
      · rw [if_pos (by omega)]; rw [if_pos h2] at this; omega
      · rw [if_neg (by omega)]; rw [if_neg h2] at this; omega
theorem hits_le : ∀ (l : List Ev), AllOk l → hsum (F l) 8 ≤ (l.length : Int)
  | [], _ => by show hsum Sk.empty 8 ≤ 0; decide
  | e :: l, h => by
    have hl : AllOk l := fun x hx => h x (by simp [hx])
    rw [F_cons e l (h e (by simp)) hl]
    have := hits_le l hl
    have := hsum_step e (F l) 8
    rw [if_pos (bkt_lt _ (h e (by simp)).v1)] at this
    simp only [List.length_cons]; omega
theorem hits_eq : ∀ (l : List Ev), AllOk l → l.length ≤ 255 → hsum (F l) 8 = (l.length : Int)
  | [], _, _ => by show hsum Sk.empty 8 = 0; decide
  | e :: l, h, hn => by
    have hl : AllOk l := fun x hx => h x (by simp [hx])
    simp only [List.length_cons] at hn
    rw [F_cons e l (h e (by simp)) hl]
    have h1 := hits_eq l hl (by omega)
    have h2 := hsum_step_eq e (F l) (F_ok l hl).h0 (fun k => by have := hist_le l hl k; omega) 8
    rw [if_pos (bkt_lt _ (h e (by simp)).v1)] at h2
    simp only [List.length_cons]; omega
theorem reg_in : ∀ (l : List Ev), AllOk l → ∀ (e : Ev), e ∈ l → ∀ (v : Int) (j : Nat), (one e.key.data.toList v).r j ≤ (F l).r j
  | [], _, _, he, _, _ => by cases he
  | x :: l, h, e, he, v, j => by
    have hl : AllOk l := fun x hx => h x (by simp [hx])
    rw [F_cons x l (h x (by simp)) hl]
    show _ ≤ max (x.sk.r j) ((F l).r j)
    rcases List.mem_cons.1 he with rfl | he
    · have : e.sk.r j = (one e.key.data.toList v).r j := rfl
      omega
    · have := reg_in l hl e he v j
      omega
theorem again_r (l : List Ev) (h : AllOk l) (e : Ev) (he : e ∈ l) (j : Nat) : (mrg (F l) (one e.key.data.toList 5)).r j = (F l).r j := by
  have := reg_in l h e he 5 j
  show max _ _ = _; omega
theorem wsum_r (s t : Sk) (h : ∀ j, s.r j = t.r j) : ∀ k, wsum s k = wsum t k
  | 0 => rfl
  | k + 1 => by simp only [wsum]; rw [wsum_r s t h k, h k]
theorem wsum_empty : wsum Sk.empty 16 = 68719476736 := by decide +kernel
end Go.Proofs.Ytpglbakcjihohaa
