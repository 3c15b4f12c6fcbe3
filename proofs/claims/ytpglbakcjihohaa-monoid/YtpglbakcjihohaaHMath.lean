/-
  Plain numbers of P3: the hash, the noughts ahead of the highest one, the bits that a value needs; the sketch of one event (no program is named here).
-/
import Derived.Test.YtpglbakcjihohaaBase
namespace Go.Proofs.Ytpglbakcjihohaa
open Go.RowKit

def hstep (h b : Nat) : Nat := ((h ^^^ b) * 16777619) % 4294967296
def hgo (h : Nat) : List UInt8 → Nat
  | [] => h
  | c :: l => hgo (hstep h c.toNat) l
def h0 : Nat := 2166136261
def hash (l : List UInt8) : Nat := hgo h0 l
theorem hstep_lt (h b : Nat) : hstep h b < 4294967296 := Nat.mod_lt _ (by decide)
theorem hgo_snoc : ∀ (l : List UInt8) (h : Nat) (c : UInt8), hgo h (l ++ [c]) = hstep (hgo h l) c.toNat
  | [], _, _ => rfl
  | _ :: l, _, c => hgo_snoc l _ c
theorem hgo_lt : ∀ (l : List UInt8) (h : Nat), h < 4294967296 → hgo h l < 4294967296
  | [], _, hh => hh
  | c :: l, h, _ => hgo_lt l _ (hstep_lt h c.toNat)
theorem h0_lt : h0 < 4294967296 := by unfold h0; omega
theorem hash_lt (l : List UInt8) : hash l < 4294967296 := hgo_lt l h0 h0_lt
theorem hash_snoc (l : List UInt8) (c : UInt8) : hash (l ++ [c]) = hstep (hash l) c.toNat := hgo_snoc l h0 c
theorem hash_nil : hash [] = 2166136261 := rfl
theorem take_snoc (s : ByteArray) (k : Nat) (h : k < s.size) : s.data.toList.take (k + 1) = s.data.toList.take k ++ [s[k]] := by
  rw [List.take_succ_eq_append_getElem (by simpa using h)]; rfl
theorem hash_take (s : ByteArray) (k : Nat) (h : k < s.size) : hash (s.data.toList.take (k + 1)) = hstep (hash (s.data.toList.take k)) s[k].toNat := by
  rw [take_snoc s k h, hash_snoc]
theorem hash_all (s : ByteArray) (k : Nat) (h : s.size ≤ k) : hash (s.data.toList.take k) = hash s.data.toList := by
  rw [List.take_of_length_le (by simpa using h)]
theorem xor_lt (h b : Nat) (h1 : h < 4294967296) (h2 : b < 256) : h ^^^ b < 4294967296 := Nat.xor_lt_two_pow (n := 32) h1 (by omega)
/-- The last byte alone is turned. -/
theorem xor_low (h b : Nat) (hb : b < 256) : h - h % 256 + (h % 256 ^^^ b) = h ^^^ b := by
  have e1 : (h ^^^ b) % 256 = h % 256 ^^^ b := by
    have := Nat.xor_mod_two_pow (a := h) (b := b) (n := 8)
    rw [show (2 : Nat) ^ 8 = 256 from rfl] at this
    rw [this, Nat.mod_eq_of_lt hb]
  have e2 : (h ^^^ b) / 256 = h / 256 := by
    have := Nat.xor_div_two_pow (a := h) (b := b) (n := 8)
    rw [show (2 : Nat) ^ 8 = 256 from rfl] at this
    rw [this, Nat.div_eq_of_lt hb]; simp
  have := Nat.div_add_mod (h ^^^ b) 256
  have := Nat.div_add_mod h 256
  omega
/-- One bit more of the exclusive or. -/
theorem xor_bit (a b i : Nat) : (a ^^^ b) % 2 ^ (i + 1) = (a ^^^ b) % 2 ^ i + (if a / 2 ^ i % 2 ≠ b / 2 ^ i % 2 then 2 ^ i else 0) := by
  have h1 : (a ^^^ b) / 2 ^ i % 2 = if a / 2 ^ i % 2 ≠ b / 2 ^ i % 2 then 1 else 0 := by
    rw [Nat.xor_div_two_pow]
    generalize a / 2 ^ i = x
    generalize b / 2 ^ i = y
    have := Nat.xor_mod_two_pow (a := x) (b := y) (n := 1)
    rw [show (2 : Nat) ^ 1 = 2 from rfl] at this
    rw [this]
    rcases Nat.mod_two_eq_zero_or_one x with hx | hx <;> rcases Nat.mod_two_eq_zero_or_one y with hy | hy <;> rw [hx, hy] <;> decide
  rw [Nat.pow_succ, Nat.mod_mul, h1]
  split <;> simp

/-! ### The noughts -/
def ntsGo (h n : Nat) : Nat → Nat
  | 0 => n
  | f + 1 => if h / 2 ^ (31 - n) % 2 = 1 then n else ntsGo h (n + 1) f
def nts (h : Nat) : Nat := ntsGo h 0 28
theorem ntsGo_le (h : Nat) : ∀ f n, ntsGo h n f ≤ n + f
  | 0, n => Nat.le_refl _
  | f + 1, n => by
    unfold ntsGo
    split
    · omega
    · have := ntsGo_le h f (n + 1); omega
theorem nts_le (h : Nat) : nts h ≤ 28 := by have := ntsGo_le h 28 0; unfold nts; omega
theorem nts_hit (h n : Nat) (hn : n < 28) (hb : h / 2 ^ (31 - n) % 2 = 1) : ntsGo h n (28 - n) = n := by
  rw [show 28 - n = (27 - n) + 1 by omega, ntsGo, if_pos hb]
theorem nts_miss (h n : Nat) (hn : n < 28) (hb : ¬ h / 2 ^ (31 - n) % 2 = 1) : ntsGo h n (28 - n) = ntsGo h (n + 1) (28 - (n + 1)) := by
  rw [show 28 - n = (27 - n) + 1 by omega, ntsGo, if_neg hb, show 27 - n = 28 - (n + 1) by omega]

/-! ### The bits that a value needs -/
def nb (v : Nat) : Nat := if v = 0 then 0 else v.log2 + 1
theorem nb_step (v : Nat) (h : 0 < v) : nb v = nb (v / 2) + 1 := by
  unfold nb
  rw [if_neg (by omega)]
  by_cases h2 : v / 2 = 0
  · rw [if_pos h2]
    have : v = 1 := by omega
    subst this; decide
  · rw [if_neg h2]
    rw [Nat.log2_def v, if_pos (by omega)]
theorem nb_le (v k : Nat) : nb v ≤ k ↔ v < 2 ^ k := by
  unfold nb
  by_cases h : v = 0
  · subst h; simp [Nat.two_pow_pos]
  · rw [if_neg h]
    have := @Nat.log2_lt v k h
    omega
def bkt (v : Int) : Nat := nb v.toNat / 4
theorem bkt_lt (v : Int) (h : v ≤ 2147483647) : bkt v < 8 := by
  have := (nb_le v.toNat 31).2 (by omega)
  unfold bkt; omega

/-! ### The sketch of one event -/
def one (key : List UInt8) (v : Int) : Sk :=
  ⟨1, v % 4294967296, v, v, fun j => if j = hash key % 16 then (nts (hash key) + 1 : Nat) else 0, fun j => if j = bkt v then 1 else 0⟩
theorem one_ok (key : List UInt8) (v : Int) (h0 : -2147483648 ≤ v) (h1 : v ≤ 2147483647) : (one key v).Ok :=
  ⟨by simp only [one]; omega, by simp only [one]; omega, by simp only [one]; omega, by simp only [one]; omega, h0, h1, h0, h1,
   fun k => by simp only [one]; split <;> omega, fun k => by have := nts_le (hash key); simp only [one]; split <;> omega,
   fun k => by simp only [one]; split <;> omega, fun k => by simp only [one]; split <;> omega⟩
def Sk.empty : Sk := ⟨0, 0, 2147483647, -2147483648, fun _ => 0, fun _ => 0⟩
theorem Sk.empty_ok : Sk.empty.Ok :=
  ⟨by decide, by decide, by decide, by decide, by decide, by decide, by decide, by decide, fun _ => by show (0 : Int) ≤ 0; decide, fun _ => by show (0 : Int) ≤ 255; decide, fun _ => by show (0 : Int) ≤ 0; decide, fun _ => by show (0 : Int) ≤ 255; decide⟩
end Go.Proofs.Ytpglbakcjihohaa
