/-
  Own texts, laid together: What the walk of the law asks of the program: its store in memory, and each call of it, as hypotheses. Whole things made, stored, appended in regions whose order is open. Packets and lists of packets in memory; whole things in regions whose order is open. The document's Send, for every node and windows. The document's Deliver, for every node and packet. A game in memory: the program's store, the document's, the packets laid by, the book; what a step leaves of it.
-/
import Derived.Test.YtpglbakcjihohaaGreatRows
import Derived.Test.YtpglbakcjihohaaGreatPart4
set_option linter.unusedSimpArgs false
set_option linter.unusedVariables false
set_option linter.deprecated false
/-! What the walk of the law asks of the program: its store in memory, and each call of it, as hypotheses. -/
namespace Go.Proofs.YtpglbakcjihohaaGreat
open Go.RowKit

/-- What a fair packet's items are. -/
theorem fair_in {t : List Int} (h8 : t.length ≤ 8) {n fr : Int} {l : List It} (h : fair t n fr l = true) (hok : AllOkI l) : AllIn l := fun x hx => by
  obtain ⟨i, hi⟩ := List.getElem?_of_mem hx
  have h1 := (fair_iff.1 h).2.2 i (List.getElem?_eq_some_iff.1 hi).1
  simp only [okAt, hi, Option.map_some, Option.getD_some, Bool.and_eq_true, okIt, isNd, decide_eq_true_eq] at h1
  refine ⟨hok i x hi, ?_⟩
  omega

def isSt (t : Tag) : Prop := ∃ i, t = .st i
/-- The program's store in memory: world, owners, base, its block, tree, width, what it holds (as the document tells it). -/
abbrev SRT := World → Ghost → Nat → Nat → List Int → Int → List Nd → Prop
/-- Numbers of events, lists of items: what stays within bounds. -/
def DI (D : List Nd) (M : Nat) : Prop := ∀ (k : Nat) (d : Nd), D[k]? = some d → d.lev.length ≤ M ∧ d.kev.length ≤ M ∧ Good d.items ∧ Good d.saved
def newE (t : List Int) (wid : Int) : Int := if isTr t = true then (if isWid wid = true then 0 else 8) else 1
def sndE (t : List Int) (n low high : Int) : Int := if isNd t n = true then (if n = 0 then 4 else if isRg low high = true then 0 else 8) else 2
def sndL (t : List Int) (D : List Nd) (n low high : Int) : List It := if sndE t n low high = 0 then ((D[n.toNat]?).map fun d => (std t d n.toNat).filter (inRg low high)).getD [] else []
def sndF (t : List Int) (n low high : Int) : Int := if sndE t n low high = 0 then n else 0
def delE (t : List Int) (n fr : Int) (l : List It) : Int := if isNd t n = true then (if fair t n fr l = true then 0 else 9) else 2
def delD (t : List Int) (D : List Nd) (n fr : Int) (l : List It) : List Nd := if delE t n fr l = 0 then (match D[n.toNat]? with | some d => D.set n.toNat { d with items := l.foldl jnd d.items } | none => D) else D
/-- The contracts of the reading calls, and of New. -/
structure PR (SR : SRT) : Prop where
  chg : ∀ {w w' : World} {own own' : Ghost} {B0 bs : Nat} {t : List Int} {wid : Int} {D : List Nd} {S : Tag → Prop}, SR w own B0 bs t wid D → Fr own S w w' → Same w own own' → (∀ i, ¬ S (.st i)) → SR w' own' B0 bs t wid D
  new : ∀ (t : List Int) (p : Option Addr) (n c : Nat) (wid : Int) (w : World), t.length = n → RowsAt clInt w p t → n ≤ 1000000000 → fitsI wid →
    Calls Tryz.prog 14 #[.slice p n c, .int .i64 wid] w fun e w' => Below w.heap.size w w' ∧
      ((newE t wid = 0 ∧ ∃ bs, e = .returned (.tuple #[.pointer (some ⟨bs, 0, none⟩), .int .i64 0]) ∧ ∀ (own : Ghost) (B0 : Nat), B0 ≤ w.heap.size → ∃ own', SR w' own' B0 bs t wid (List.replicate t.length Nd.zero) ∧ Same w own own') ∨
       (newE t wid ≠ 0 ∧ e = .returned (.tuple #[.pointer none, .int .i64 (newE t wid)])))
  items : ∀ (w : World) (own : Ghost) (B0 bs : Nat) (t : List Int) (wid : Int) (D : List Nd), SR w own B0 bs t wid D → DI D 100000000 → ∀ n : Int, fitsI n →
    Calls Tryz.prog 37 #[.pointer (some ⟨bs, 0, none⟩), .int .i64 n] w fun e w' => ∃ v, e = .returned v ∧ Own clIt w' w.heap.size 114 v (lvAt t D n) ∧ Below w.heap.size w w'
  mark : ∀ (w : World) (own : Ghost) (B0 bs : Nat) (t : List Int) (wid : Int) (D : List Nd), SR w own B0 bs t wid D → DI D 100000000 → ∀ n : Int, fitsI n →
    Calls Tryz.prog 41 #[.pointer (some ⟨bs, 0, none⟩), .int .i64 n] w fun e w' => e = .returned (.int .i64 (wmAt t D n)) ∧ Below w.heap.size w w'
  ask : ∀ (w : World) (own : Ghost) (B0 bs : Nat) (t : List Int) (wid : Int) (D : List Nd), SR w own B0 bs t wid D → DI D 100000000 → ∀ n low high : Int, fitsI n → fitsI low → fitsI high →
    Calls Tryz.prog 35 #[.pointer (some ⟨bs, 0, none⟩), .int .i64 n, .int .i64 low, .int .i64 high] w fun e w' => ∃ A, e = .returned (.tuple #[.agg A, .int .i64 (askErr t n low high)]) ∧ IsAn A (askAn t (lvAt t D n) n low high) ∧ Below w.heap.size w w'
/-- What a call that changes the store does. -/
def Chg (SR : SRT) (w : World) (own : Ghost) (B0 bs : Nat) (t : List Int) (wid : Int) (D' : List Nd) (w' : World) : Prop := ∃ own', SR w' own' B0 bs t wid D' ∧ Same w own own' ∧ Fr own isSt w w'
structure PL (SR : SRT) : Prop where
  ingest : ∀ (w : World) (own : Ghost) (B0 bs : Nat) (t : List Int) (wid : Int) (D : List Nd), SR w own B0 bs t wid D → DI D 100000000 → B0 ≤ w.heap.size → ∀ (n at' : Int) (key : ByteArray) (v : Int), fitsI n → fitsI at' → key.size ≤ maxLen → -2147483648 ≤ v → v ≤ 2147483647 →
    Calls Tryz.prog 22 #[.pointer (some ⟨bs, 0, none⟩), .int .i64 n, .int .i64 at', .string key, .int .i32 v] w fun e w' => e = .returned (.int .i64 (ingE t wid D n at' key)) ∧ Chg SR w own B0 bs t wid (ingD t wid D n at' key v) w'
  advance : ∀ (w : World) (own : Ghost) (B0 bs : Nat) (t : List Int) (wid : Int) (D : List Nd), SR w own B0 bs t wid D → DI D 100000000 → B0 ≤ w.heap.size → ∀ (n tm : Int), fitsI n → fitsI tm →
    Calls Tryz.prog 24 #[.pointer (some ⟨bs, 0, none⟩), .int .i64 n, .int .i64 tm] w fun e w' => e = .returned (.int .i64 (advE t wid D n tm)) ∧ Chg SR w own B0 bs t wid (advD t wid D n tm) w'
structure PS (SR : SRT) : Prop where
  sync : ∀ (w : World) (own : Ghost) (B0 bs : Nat) (t : List Int) (wid : Int) (D : List Nd), SR w own B0 bs t wid D → DI D 100000000 → B0 ≤ w.heap.size → ∀ (n : Int), fitsI n →
    Calls Tryz.prog 26 #[.pointer (some ⟨bs, 0, none⟩), .int .i64 n] w fun e w' => e = .returned (.int .i64 (ndE t n)) ∧ Chg SR w own B0 bs t wid (synD t D n) w'
  crash : ∀ (w : World) (own : Ghost) (B0 bs : Nat) (t : List Int) (wid : Int) (D : List Nd), SR w own B0 bs t wid D → DI D 100000000 → B0 ≤ w.heap.size → ∀ (n : Int), fitsI n →
    Calls Tryz.prog 28 #[.pointer (some ⟨bs, 0, none⟩), .int .i64 n] w fun e w' => e = .returned (.int .i64 (ndE t n)) ∧ Chg SR w own B0 bs t wid (craD t D n) w'
structure PD (SR : SRT) : Prop where
  send : ∀ (w : World) (own : Ghost) (B0 bs : Nat) (t : List Int) (wid : Int) (D : List Nd), SR w own B0 bs t wid D → DI D 100000000 → ∀ (n low high : Int), fitsI n → fitsI low → fitsI high →
    Calls Tryz.prog 57 #[.pointer (some ⟨bs, 0, none⟩), .int .i64 n, .int .i64 low, .int .i64 high] w fun e w' => ∃ v, e = .returned (.tuple #[.agg #[.int .i64 (sndF t n low high), v], .int .i64 (sndE t n low high)]) ∧ Own clIt w' w.heap.size 114 v (sndL t D n low high) ∧ Below w.heap.size w w'
structure PJ (SR : SRT) : Prop where
  deliver : ∀ (w : World) (own : Ghost) (B0 bs : Nat) (t : List Int) (wid : Int) (D : List Nd), SR w own B0 bs t wid D → DI D 100000000 → B0 ≤ w.heap.size → ∀ (n fr : Int) (l : List It) (p : Option Addr) (m c : Nat), fitsI n → fitsI fr → l.length = m → RowsAt clIt w p l → AllOkI l → m ≤ 1000000000 → (∀ b off, p = some ⟨b, off, none⟩ → own b = .arg) →
    Calls Tryz.prog 60 #[.pointer (some ⟨bs, 0, none⟩), .int .i64 n, .agg #[.int .i64 fr, .slice p m c]] w fun e w' => e = .returned (.int .i64 (delE t n fr l)) ∧ Chg SR w own B0 bs t wid (delD t D n fr l) w'
end Go.Proofs.YtpglbakcjihohaaGreat

/-! Whole things made, stored, appended in regions whose order is open. -/
namespace Go.Proofs.YtpglbakcjihohaaGreat
open Go.RowKit
set_option maxRecDepth 100000

section
variable {ops : Array Oper} {rest : List Oper} {i : Nat} {o : Oper} {a : Act} {w : World} {Q : Exit → Act → World → Prop} {K : Act → World → Prop} {S : World → Prop}
theorem wpOp_alloc_z (hi : ops[i]? = some o) (hg : o.guard = none) (t : TypeId) (ho : o.op = .alloc t) (z : Array Value) (hz : (Tryz.prog.info? t).bind (·.zero) = some (.agg z))
    (h : K (a.put o.dst (.pointer (some ⟨w.heap.size, 0, none⟩))) (w.alloc (.cells z t))) : wpOp Tryz.prog ops Q i K a w :=
  wpOp_of_wp hi hg (by
    have hz' : (zeroValue t).run Tryz.prog w = .ok (.agg z) w := by
      cases hq : Tryz.prog.info? t with
      | none => simp [hq] at hz
      | some i => simp [hq] at hz; simp [zeroValue, typeInfo, hq, hz]
    unfold Oper.wp execOp
    simp only [ho, Instr.alloc, Sem.run_bind, hz', Result.andThen_ok, newVar, newRow, newObj, Sem.run_pure]
    exact h)
theorem wpOp_store_row {c : Array Value} {g : Nat} (hi : ops[i]? = some o) (hg : o.guard = none) (t : TypeId) (x y : Operand) (ho : o.op = .store t x y) (A : Array Value)
    (hx : a.eval x = .pointer (some ⟨g, 0, none⟩)) (hy : a.eval y = .agg A) (hgg : w.heap[g]? = some (.cells c t)) (hA : (Tryz.prog.info? t).map (·.size) = some A.size) (hc : c.size = A.size) (h1 : A.all (·.oneCell') = true)
    (h : K (a.put o.dst undef) (w.setRow g A)) : wpOp Tryz.prog ops Q i K a w :=
  wpOp_of_wp hi hg (wp_store_row _ x y ho g A hx hy _ c hgg hA hc h1 h)
theorem wpOp_build_z (hi : ops[i]? = some o) (hg : o.guard = none) (t : TypeId) (parts : Array (Nat × Operand)) (ho : o.op = .build t parts) (z : Array Value)
    (hz : Tryz.prog.built t (parts.map fun (i, x) => (i, a.eval x)).toList = some z) (h : K (a.put o.dst (.agg z)) w) : wpOp Tryz.prog ops Q i K a w :=
  wpOp_of_wp hi hg (by
    have hw := wp_build (P := Tryz.prog) (o := o) (a := a) (w := w) (K := K) (Q := Q) t parts ho (by rw [hz]; rfl) (by rw [hz]; exact h)
    exact hw)
theorem wpOp_build1_cl {α : Type} {C : Cl α} {t e : TypeId} {bytes : Nat} (T : SlT Tryz.prog C t e bytes) (hi : ops[i]? = some o) (hg : o.guard = none) (x : Operand) (ho : o.op = .buildSlice t 1 #[(0, x)]) (y : α) (v : Value) (hx : a.eval x = v) (hv : v.cells.toList = C.cells y) (hsm : C.size ≤ 2 ^ 24)
    (h : RowsAt C (w.alloc (.cells (flat C [y]).toArray e)) (some ⟨w.heap.size, 0, none⟩) [y] → K (a.put o.dst (.slice (some ⟨w.heap.size, 0, none⟩) 1 1)) (w.alloc (.cells (flat C [y]).toArray e))) : wpOp Tryz.prog ops Q i K a w :=
  wpOp_of_wp hi hg (by
    obtain ⟨ie, z, h1, h2, h3, h4, h5⟩ := T.get
    have hvs : v.cells.size = C.size := by have := congrArg List.length hv; rw [Cl.len] at this; simpa using this
    have hf := Great.fill_whole (s := C.size) Cl.pos [v] ((Array.range (1 * C.size)).map (z.cells[· % z.cells.size]!)) (by simpa using hvs) (by simp)
    have hfl : ([v].flatMap fun v => v.cells.toList) = flat C [y] := by simp [flat, hv]
    rw [hfl] at hf
    refine wp_buildSlice _ _ 1 _ ho (flat C [y]).toArray ie z T.und h1 h2 (by rw [h3]; have := Cl.pos (C := C); omega) (by rw [h3]; have := Cl.pos (C := C); simp; omega) (by rw [h3]; simp only [hx, List.map_toArray, List.map_cons, List.map_nil]; exact hf) ?_
    refine h (.inr ⟨w.heap.size, 0, rfl, by simp, fun j y' hy' i u hu => ?_⟩)
    rw [cell_of_row _ _ _ _ _ _ (heap_alloc_new w _)]
    have hj : i < C.size := by rw [← Cl.len y']; exact (List.getElem?_eq_some_iff.1 hu).1
    have := flat_get [y] j y' hy' i hj
    rw [hu] at this
    rw [Nat.zero_add]; simpa using this)
theorem wpOp_append_cl {α : Type} {C : Cl α} {t e : TypeId} {bytes : Nat} (T : SlT Tryz.prog C t e bytes) (hi : ops[i]? = some o) (hg : o.guard = none) (s x : Operand) (ho : o.op = .call { callee := .builtin .append, args := #[s, x], argTypes := #[t, t] }) (base : Nat) (v : Value) (l : List α) (hs : a.eval s = v) (hown : Own C w base e v l)
    (p : Option Addr) (m c : Nat) (ms : List α) (hx : a.eval x = .slice p m c) (hm : ms.length = m) (hr : RowsAt C w p ms) (hpos : 0 < m) (h63 : l.length + m ≤ maxLen) (hby : (l.length + m) * bytes ≤ 140737488355328) (hbase : base ≤ w.heap.size)
    (h : ∀ v' w', Own C w' base e v' (l ++ ms) → w.grownBy w' v.ownBlock → (v'.ownBlock = v.ownBlock ∨ v'.ownBlock = some w.heap.size) → (∃ g cap, v' = .slice (some ⟨g, 0, none⟩) (l ++ ms).length cap) → K (a.put o.dst v') w') : wpOp Tryz.prog ops Q i K a w :=
  wpOp_of_wp hi hg (by
    obtain ⟨v', w', hr, h6, _, h7, h8, h9⟩ := run_append_cl T o.type w base v l hown p m c ms hm hr hpos h63 hby hbase
    unfold Oper.wp execOp
    simp only [ho, resolve, invoke, builtin, Sem.run_bind, Sem.run_pure, Result.andThen_ok, List.map_toArray, List.map_cons, List.map_nil, hs, hx, hr]
    exact h v' w' h6 h7 (by rcases h8 with h8 | h8; exact .inl h8; exact .inr h8.1) h9)
end
end Go.Proofs.YtpglbakcjihohaaGreat

/-! Packets and lists of packets in memory; whole things in regions whose order is open. -/
namespace Go.Proofs.YtpglbakcjihohaaGreat
open Go.RowKit
set_option maxRecDepth 100000

structure Pk where
  fr : Int
  s : Sl
def Pk.arr (x : Pk) : Array Value := #[.int .i64 x.fr, .slice x.s.p x.s.n x.s.c]
abbrev clPk : Cl Pk := ⟨fun x => [.int .i64 x.fr, .slice x.s.p x.s.n x.s.c], 2, by decide, fun _ => rfl, fun _ v hv => by
  simp only [List.mem_cons, List.not_mem_nil, or_false] at hv
  rcases hv with rfl | rfl <;> rfl⟩
theorem Pk.clsize : clPk.size = 2 := rfl
theorem slPk : SlT Tryz.prog clPk 37 31 32 := ⟨Tryz.underlying37, by kernel_rfl⟩
theorem info_pk : (Tryz.prog.info? 31).map (·.size) = some 2 := by kernel_rfl
theorem zero_pk : (Tryz.prog.info? 31).bind (·.zero) = some (.agg #[.int .i64 0, .slice none 0 0]) := by kernel_rfl
section
variable {ops : Array Oper} {rest : List Oper} {i : Nat} {o : Oper} {a : Act} {w : World} {Q : Exit → Act → World → Prop} {K : Act → World → Prop} {S : World → Prop}
theorem load_pk (hgd : o.guard = none) (x : Operand) (ho : o.op = .load 31 x) (g : Nat) (hx : a.eval x = .pointer (some ⟨g, 0, none⟩)) (u v : Value)
    (hg : w.heap[g]? = some (.cells #[u, v] 31)) (h : wpList Tryz.prog ops Q rest (a.put o.dst (.agg #[u, v])) w) : wpList Tryz.prog ops Q (o :: rest) a w :=
  wpList_load_row hgd _ x ho g hx _ _ (0, 0) _ hg Tryz.underlying31 rfl info_pk h
theorem yieldsIf_load_pk (hw : Region.wanted o (yielded ops a.tmps) = true) (x : Operand) (ho : o.op = .load 31 x) (g : Nat) (hx : a.eval x = .pointer (some ⟨g, 0, none⟩)) (u v : Value)
    (hS : ∀ w, S w → w.heap[g]? = some (.cells #[u, v] 31)) : YieldsIf Tryz.prog ops S o (.agg #[u, v]) a :=
  .inl ⟨hw, fun w hw' => by
    unfold execOp
    simp only [ho, hx, Instr.loadAt, Instr.sureAddr, Sem.run_bind, Sem.run_pure, Result.andThen_ok, run_loadVar_row w g _ _ _ (0, 0) _ (hS w hw') Tryz.underlying31 rfl info_pk]⟩
theorem wp_load_pk_mid (x : Operand) (ho : o.op = .load 31 x) (g off : Nat) (hx : a.eval x = .pointer (some ⟨g, off, none⟩)) (u v : Value)
    (hg : w.rangeAt g off [u, v]) (h : K (a.put o.dst (.agg #[u, v])) w) : o.wp Tryz.prog a w K Q := by
  have hl := run_loadVar_mid (P := Tryz.prog) w g off 31 [u, v] _ hg Tryz.underlying31 rfl info_pk
  unfold Oper.wp execOp
  simp only [ho, hx, Instr.loadAt, Instr.sureAddr, Sem.run_bind, Sem.run_pure, Result.andThen_ok, hl]
  exact h
theorem yieldsIf_load_pk_mid (hw : Region.wanted o (yielded ops a.tmps) = true) (x : Operand) (ho : o.op = .load 31 x) (g off : Nat) (hx : a.eval x = .pointer (some ⟨g, off, none⟩)) (u v : Value)
    (hS : ∀ w, S w → w.rangeAt g off [u, v]) : YieldsIf Tryz.prog ops S o (.agg #[u, v]) a :=
  yieldsIf_load_mid hw _ x ho g off hx [u, v] _ hS Tryz.underlying31 rfl info_pk
theorem store_pk {c : Array Value} {g : Nat} (hgd : o.guard = none) (x y : Operand) (ho : o.op = .store 31 x y) (u : Int) (s : Sl)
    (hx : a.eval x = .pointer (some ⟨g, 0, none⟩)) (hy : a.eval y = .agg #[.int .i64 u, .slice s.p s.n s.c]) (hg : w.heap[g]? = some (.cells c 31)) (hc : c.size = 2)
    (h : wpList Tryz.prog ops Q rest (a.put o.dst undef) (w.setRow g #[.int .i64 u, .slice s.p s.n s.c])) : wpList Tryz.prog ops Q (o :: rest) a w :=
  wpList_store_row hgd _ x y ho g #[.int .i64 u, .slice s.p s.n s.c] hx hy _ c hg info_pk (by rw [hc]; rfl) (by simp [Value.oneCell']) h
theorem alloc_pk (hgd : o.guard = none) (ho : o.op = .alloc 31)
    (h : wpList Tryz.prog ops Q rest (a.put o.dst (.pointer (some ⟨w.heap.size, 0, none⟩))) (w.alloc (.cells #[.int .i64 0, .slice none 0 0] 31))) : wpList Tryz.prog ops Q (o :: rest) a w :=
  wpList_alloc_z hgd _ ho _ zero_pk h
end
/-- The answer of a function whose results are a packet in memory and a number. -/
theorem results_pk {fn : Func} {p q : Tmp} (h : fn.results = #[.cell p 31, .tmp q]) (tmps : Array Value) (w : World) (g : Nat) (u v : Value)
    (hp : tmps.getD p undef = .pointer (some ⟨g, 0, none⟩)) (hg : w.heap[g]? = some (.cells #[u, v] 31)) : (results fn tmps).run Tryz.prog w = .ok (.tuple #[.agg #[u, v], tmps.getD q undef]) w := by
  have hl := run_loadVar_row (P := Tryz.prog) w g 31 31 #[u, v] (0, 0) _ hg Tryz.underlying31 rfl info_pk
  have hp' : tmps[p]?.getD undef = .pointer (some ⟨g, 0, none⟩) := by simpa using hp
  unfold results
  simp [h, hp', asAddr, hl]
end Go.Proofs.YtpglbakcjihohaaGreat

/-! The document's Send, for every node and windows. -/
namespace Go.Proofs.YtpglbakcjihohaaGreat
open Go.RowKit
set_option maxRecDepth 100000

structure SW (w wr : World) (g B1 : Nat) (n : Int) (v : Value) (p : Option Addr) (L o : List It) : Prop where
  below : Below w.heap.size w wr
  r : wr.heap[w.heap.size]? = some (.cells #[.int .i64 0, .slice none 0 0] 31)
  m : wr.heap[g]? = some (.cells #[.int .i64 n, v] 31)
  rows : RowsAt clIt wr p L
  own : Own clIt wr B1 114 v o
  low : B1 ≤ wr.heap.size
  hp : L = [] ∨ ∀ b off, p = some ⟨b, off, none⟩ → b < B1 ∧ b ≠ g
  hg : g < B1
  hw : w.heap.size < g
theorem SW.step {w wr wA w2 : World} {g B1 : Nat} {n : Int} {v v' : Value} {p : Option Addr} {L o o' : List It} (h : SW w wr g B1 n v p L o) (hA : Below wr.heap.size wr wA) (g1 : wA.grownBy w2 v.ownBlock) (o1 : Own clIt w2 B1 114 v' o') : SW w (w2.setCell ⟨g, 1, none⟩ v') g B1 n v' p L o' := by
  have hsz : (w2.setCell ⟨g, 1, none⟩ v').heap.size = w2.heap.size := by simp
  have blk : ∀ j, j < B1 → w2.heap[j]? = wr.heap[j]? := fun j hj => by
    rw [g1.block j (by have := h.low; have := hA.size; omega) (fun e => by have := (h.own.lt j e.symm).1; omega)]
    exact hA.block j (by have := h.low; omega)
  have blk2 : ∀ j, j < B1 → j ≠ g → (w2.setCell ⟨g, 1, none⟩ v').heap[j]? = wr.heap[j]? := fun j hj hne => by
    rw [heap_setCell_other _ _ _ _ (by show j ≠ g; exact hne)]; exact blk j hj
  have hs1 := h.low
  have hs2 := hA.size
  have hs3 := g1.size
  have hg := h.hg
  have hw := h.hw
  refine ⟨⟨?_, ?_, ?_, ?_, fun j hj => ?_⟩, ?_, ?_, ?_, ?_, by omega, h.hp, h.hg, h.hw⟩
  · exact (g1.os.trans hA.os).trans h.below.os
  · exact (g1.tape.trans hA.tape).trans h.below.tape
  · exact (g1.output.trans hA.output).trans h.below.output
  · omega
  · rw [blk2 j (by omega) (by omega)]; exact h.below.block j hj
  · rw [blk2 _ (by omega) (by omega)]; exact h.r
  · have := blk g hg
    rw [h.m] at this
    rw [heap_setCell_same _ _ _ _ _ _ this]
    rfl
  · rcases h.hp with e | hp
    · exact .inl e
    · exact h.rows.chg (by omega) fun b off e => blk2 b (hp b off e).1 (hp b off e).2
  · exact o1.chg fun j hj => heap_setCell_other _ _ _ _ (by show j ≠ g; have := (o1.lt j hj).1; omega)
set_option maxHeartbeats 4000000 in
theorem rSend_any (w : World) (own : Ghost) (B0 bw : Nat) (t : List Int) (wid : Int) (D : List Nd) (vt vn : Sl) (C : List NdC) (h : WRep w own B0 bw t wid D vt vn C) (n low high : Int) (hl : ∀ (k : Nat) (d : Nd), D[k]? = some d → d.kev.length ≤ 1000000000) :
    Calls Tryz.prog 58 #[.pointer (some ⟨bw, 0, none⟩), .int .i64 n, .int .i64 low, .int .i64 high] w fun e w' => ∃ v, e = .returned (.tuple #[.agg #[.int .i64 (sndF t n low high), v], .int .i64 (sndE t n low high)]) ∧ Own clIt w' w.heap.size 114 v (sndL t D n low high) ∧ Below w.heap.size w w' := by
  have HW : Hid (WRep w own B0 bw t wid D vt vn C) := h
  by_cases h1 : isNd t n = true
  · by_cases h0 : n = 0
    · subst h0
      have HE : Hid (sndE t 0 low high = 4) := by unfold Hid sndE; rw [if_pos h1, if_pos rfl]
      have HL : Hid (sndL t D 0 low high = []) := by unfold Hid sndL; rw [if_neg (by rw [HE.out]; decide)]
      have HF : Hid (sndF t 0 low high = 0) := by unfold Hid sndF; rw [if_neg (by rw [HE.out]; decide)]
      clear h hl
      go_enter Tryz.func58, Tryz.ntmps58
      go_wp2_with (go_at_call 54; refine (isNode_any _ _ _ _ t (HW.out.below (below_alloc _ _)).treeAt _).mono ?_; rintro e w1 ⟨rfl, rfl⟩; rw [h1])
      exact bodyPost_ret (results_pk rfl _ _ _ _ _ rfl (by exact heap_alloc_new _ _)) rfl ⟨_, by rw [HE.out, HF.out]; rfl, by rw [HL.out]; exact Own.nil _ _ _, below_alloc _ _⟩
    · by_cases h2 : isRg low high = true
      · obtain ⟨k, c, d, rfl, hk, hc, hd, rep, ok⟩ := h.at n h1
        have h8 := h.T.le
        have hlen := std_len (t := t) (n := k) ok
        have hLk := hl k d hd
        have HE : Hid (sndE t k low high = 0) := by unfold Hid sndE; rw [if_pos h1, if_neg h0, if_pos h2]
        have HL : Hid (sndL t D k low high = (std t d k).filter (inRg low high)) := by unfold Hid sndL; rw [if_pos HE.out]; simp [hd]
        have HF : Hid (sndF t k low high = k) := by unfold Hid sndF; rw [if_pos HE.out]
        have HVS : Hid (∀ b off, c.vs.p = some ⟨b, off, none⟩ → b < w.heap.size) := fun b off e => (rep.saved.lt b (by unfold Sl.val; rw [e]; rfl)).2
        have k0 : ((k : Int) == 0) = false := by simpa using h0
        clear h hl rep ok
        go_enter Tryz.func58, Tryz.ntmps58
        go_wp2_with (first | (go_at_call 54; refine (isNode_any _ _ _ _ t (HW.out.below (below_alloc _ _)).treeAt _).mono ?_; rintro e w1 ⟨rfl, rfl⟩; rw [h1]) | (go_at_call 71; refine (isRange_any _ _ _).mono ?_; rintro e w1 ⟨rfl, rfl⟩; rw [h2]))
        have B1 : Below w.heap.size w ((w.alloc (.cells #[.int .i64 0, .slice none 0 0] 31)).alloc (.cells #[.int .i64 k, .slice none 0 0] 31)) := bnext (below_alloc _ _) (below_alloc _ _)
        refine (stored_any _ own B0 bw t wid D vt vn C (HW.out.below B1) k c d hc hd hLk).mono ?_
        rintro e w3 ⟨⟨p, m, cp⟩, rfl, hm, hr, hb3, hq⟩
        obtain ⟨L, hL⟩ : ∃ L, L = std t d k := ⟨_, rfl⟩
        rw [← hL] at hm hr hlen HL
        replace hm : L.length = m := hm
        replace hr : RowsAt clIt w3 p L := hr
        have hs3 := hb3.size
        simp only [World.size_alloc] at hs3
        have hsw : SW w w3 (w.heap.size + 1) w3.heap.size k (.slice none 0 0) p L ((L.take 0).filter (inRg low high)) := by
          refine ⟨bnext B1 hb3, keep hb3 (blk_old (heap_alloc_new w _)), ?_, hr, Own.nil _ _ _, Nat.le_refl _, ?_, by omega, by omega⟩
          · have := keep hb3 (heap_alloc_new (w.alloc (.cells #[.int .i64 0, .slice none 0 0] 31)) (.cells #[.int .i64 k, .slice none 0 0] 31))
            simpa using this
          · rcases hr with h4 | ⟨b', off', e', hlt, _⟩
            · exact .inl h4
            · refine .inr fun b off e => ?_
              rw [e'] at e; cases e
              refine ⟨hlt, ?_⟩
              rcases hq with hq | hq
              · have := HVS.out b' off' (by rw [← hq]; exact e'); omega
              · have h3 := hq b' off' e'
                simp at h3
                omega
        have hm160 : m ≤ 160 := by omega
        obtain ⟨gp, hgp⟩ : ∃ gp, gp = w.heap.size + 1 := ⟨_, rfl⟩
        obtain ⟨B1', hB1'⟩ : ∃ B1', B1' = w3.heap.size := ⟨_, rfl⟩
        rw [← hgp, ← hB1'] at hsw
        have HSW : Hid (SW w w3 gp B1' k (.slice none 0 0) p L ((L.take 0).filter (inRg low high))) := hsw
        clear hsw hr hq hb3 B1 hs3 hL hB1' HVS hlen
        rw [← hgp]
        clear hgp
        go_wp2
        go_loopw [14] (fun i wr => ∃ (j : Nat) (s : Sl), j ≤ m ∧ i = .int .i64 j ∧ SW w wr gp B1' k (.slice s.p s.n s.c) p L ((L.take j).filter (inRg low high))) (fun i _ => m - (intOf i).toNat)
        case atStart => exact ⟨0, ⟨none, 0, 0⟩, by omega, rfl, HSW.out⟩
        case round =>
          clear HSW
          obtain ⟨j, s, hj, rfl, sw⟩ := hrel
          by_cases hlj : j < m
          · obtain ⟨x, hx⟩ : ∃ x, L[j]? = some x := ⟨_, List.getElem?_eq_getElem (by omega)⟩
            obtain ⟨b, off, rfl, hlt, hcx⟩ := sw.rows.pos j (by omega)
            have rg : Hid (wr.rangeAt b (off + j * 32) x.cells) := hcx j x hx
            have y1 : wr.cell? ⟨b, off + j * 32 + 1, none⟩ = some (.int .i64 x.win) := rg.out 1 _ x.get1
            have hft := filt_take L low high j x hx
            have HSW : Hid (SW w wr gp B1' k (.slice s.p s.n s.c) (some ⟨b, off, none⟩) L ((L.take j).filter (inRg low high))) := sw
            clear sw hcx
            by_cases in0 : low ≤ x.win
            · by_cases in1 : x.win ≤ high
              · have hiB : inRg low high x = true := by simp [inRg, in0, in1]
                rw [if_pos hiB] at hft
                have HFT : Hid ((L.take (j + 1)).filter (inRg low high) = (L.take j).filter (inRg low high) ++ [x]) := hft
                have hfl : ((L.take j).filter (inRg low high)).length ≤ j := Nat.le_trans (List.length_filter_le _ _) (by simp; omega)
                obtain ⟨o, ho⟩ : ∃ o, o = (L.take j).filter (inRg low high) := ⟨_, rfl⟩
                rw [← ho] at HSW HFT hfl
                have j0 : (0 : Int) ≤ (j : Int) := by omega
                have j1 : (j : Int) < (m : Int) := by omega
                clear hft hiB ho hx
                go_upto_region 15 with fail
                clear y1
                have c1 : wr.cell? ⟨gp, 1, none⟩ = some (.slice s.p s.n s.c) := by rw [cell_of_row _ _ _ _ _ _ HSW.out.m]; rfl
                obtain ⟨X, hX⟩ : ∃ X, IsIt X x := ⟨_, isIt_of x⟩
                have hT0 : (fun w' : World => w'.rangeAt b (off + j * 32) x.cells) wr.drew := rg.out
                refine wp_region_held (S := fun w' : World => w'.rangeAt b (off + j * 32) x.cells) mixed ?_
                refine wpAnyH_take (i := 0) (v := (.pointer (some ⟨gp, 1, none⟩))) rfl (by kernel_rfl) (by kernel_rfl) (by kernel_rfl) (fun _ _ _ h => h) (Or.inl ⟨by rfl, fun wx hx => by go_simp⟩) hT0 ?_
                try dsimp only
                try simp only [Act.put, List.getElem_toArray, List.getElem_cons_succ, List.getElem_cons_zero, List.setIfInBounds_toArray, List.set_cons_zero, List.set_cons_succ]
                refine wpAnyH_take (i := 2) (v := (.slice (some ⟨b, off, none⟩) m cp)) rfl (by kernel_rfl) (by kernel_rfl) (by kernel_rfl) (fun _ _ _ h => h) (Or.inl ⟨by rfl, fun wx hx => by go_simp⟩) hT0 ?_
                try dsimp only
                try simp only [Act.put, List.getElem_toArray, List.getElem_cons_succ, List.getElem_cons_zero, List.setIfInBounds_toArray, List.set_cons_zero, List.set_cons_succ]
                refine wpAnyH_take (i := 3) (v := (.int .i64 j)) rfl (by kernel_rfl) (by kernel_rfl) (by kernel_rfl) (fun _ _ _ h => h) (Or.inl ⟨by rfl, fun wx hx => by go_simp⟩) hT0 ?_
                try dsimp only
                try simp only [Act.put, List.getElem_toArray, List.getElem_cons_succ, List.getElem_cons_zero, List.setIfInBounds_toArray, List.set_cons_zero, List.set_cons_succ]
                refine wpAnyH_take (i := 4) (v := (.pointer (some ⟨b, off + j * 32, none⟩))) rfl (by kernel_rfl) (by kernel_rfl) (by kernel_rfl) (fun _ _ _ h => h) (Or.inl ⟨by rfl, fun wx hx => by go_simp⟩) hT0 ?_
                try dsimp only
                try simp only [Act.put, List.getElem_toArray, List.getElem_cons_succ, List.getElem_cons_zero, List.setIfInBounds_toArray, List.set_cons_zero, List.set_cons_succ]
                refine wpAnyH_take (i := 5) (v := (.agg X)) rfl (by kernel_rfl) (by kernel_rfl) (by kernel_rfl) (fun _ _ _ h => h) (yieldsIf_load_it_mid (by rfl) _ rfl _ _ rfl X _ hX (fun wx hx => hx)) hT0 ?_
                try dsimp only
                try simp only [Act.put, List.getElem_toArray, List.getElem_cons_succ, List.getElem_cons_zero, List.setIfInBounds_toArray, List.set_cons_zero, List.set_cons_succ]
                refine wpAnyH_all (rs := [1, 6]) (by kernel_rfl) (by simp) ?_
                intro jj hjj
                simp only [List.mem_cons, List.not_mem_nil, or_false] at hjj
                rcases hjj with rfl | rfl
                · skip
                  refine wpOp_of_wp rfl rfl (hideK ?_)
                  intro K' hK'
                  go_simp
                  rw [hK'.out]
                  refine ⟨hT0, ?_⟩
                  try dsimp only
                  try simp only [Act.put, List.getElem_toArray, List.getElem_cons_succ, List.getElem_cons_zero, List.setIfInBounds_toArray, List.set_cons_zero, List.set_cons_succ]
                  refine wpAnyH_all (rs := [6]) (by kernel_rfl) (by simp) ?_
                  intro jj hjj
                  simp only [List.mem_cons, List.not_mem_nil, or_false] at hjj
                  subst hjj
                  refine wpOp_build1_cl slIt rfl rfl _ rfl x (.agg X) rfl hX (by decide) ?_
                  intro R1
                  refine ⟨range_below (below_alloc _ _) hlt hT0, ?_⟩
                  try dsimp only
                  try simp only [Act.put, List.getElem_toArray, List.getElem_cons_succ, List.getElem_cons_zero, List.setIfInBounds_toArray, List.set_cons_zero, List.set_cons_succ]
                  refine wpAnyH_all (rs := [7]) (by kernel_rfl) (by simp) ?_
                  intro jj hjj
                  simp only [List.mem_cons, List.not_mem_nil, or_false] at hjj
                  subst hjj
                  refine wpOp_append_cl slIt rfl rfl _ _ rfl B1' _ o rfl (by exact HSW.out.own.below (below_drawn' (below_alloc wr.drew _))) _ 1 _ [x] rfl rfl R1 (by omega) (by simp only [maxLen]; omega) (by omega) (by have := HSW.out.low; simp; omega) ?_
                  intro v1 w2 o1 g1 t1 f1
                  obtain ⟨gb, cb, rfl⟩ := f1
                  have hl2 : (o ++ [x]).length = o.length + 1 := by simp
                  rw [hl2] at o1 t1
                  rw [hl2]
                  have hbl : w2.heap[b]? = wr.heap[b]? := by
                    rw [g1.block b (by simp; omega) (fun e => by have := (HSW.out.own.lt b e.symm).1; rcases HSW.out.hp with h | h; (rw [h] at hm; simp at hm; omega); have := (h b off rfl).1; omega)]
                    exact Below.heap_alloc wr.drew _ b hlt
                  have hT2 : (fun w' : World => w'.rangeAt b (off + j * 32) x.cells) w2 := fun i u hu => by rw [World.cell?_of_block (w := wr) hbl]; exact rg.out i u hu
                  refine ⟨hT2, ?_⟩
                  try dsimp only
                  try simp only [Act.put, List.getElem_toArray, List.getElem_cons_succ, List.getElem_cons_zero, List.setIfInBounds_toArray, List.set_cons_zero, List.set_cons_succ]
                  refine wpAnyH_take (i := 8) (v := (.pointer (some ⟨gp, 1, none⟩))) rfl (by kernel_rfl) (by kernel_rfl) (by kernel_rfl) (fun _ _ _ h => h) (Or.inl ⟨by rfl, fun wx hx => by go_simp⟩) hT2 ?_
                  try dsimp only
                  try simp only [Act.put, List.getElem_toArray, List.getElem_cons_succ, List.getElem_cons_zero, List.setIfInBounds_toArray, List.set_cons_zero, List.set_cons_succ]
                  refine wpAnyH_all (rs := [9]) (by kernel_rfl) (by simp) ?_
                  intro jj hjj
                  simp only [List.mem_cons, List.not_mem_nil, or_false] at hjj
                  subst hjj
                  have hgp : w2.heap[gp]? = some (.cells #[.int .i64 k, .slice s.p s.n s.c] 31) := by
                    rw [g1.block gp (by have := lt_of_blk HSW.out.m; simp; omega) (fun e => by have := (HSW.out.own.lt gp e.symm).1; have := HSW.out.hg; omega)]
                    exact (Below.heap_alloc wr.drew _ gp (lt_of_blk HSW.out.m)).trans HSW.out.m
                  have cx : w2.cell? ⟨gp, 1, none⟩ = some (.slice s.p s.n s.c) := by rw [cell_of_row _ _ _ _ _ _ hgp]; rfl
                  have fx : w2.frozen? ⟨gp, 1, none⟩ = false := frozen_of_row _ _ _ _ _ hgp
                  have hbne : b ≠ gp := by rcases HSW.out.hp with h | h; (rw [h] at hm; simp at hm; omega); exact (h b off rfl).2
                  have hT3 : (fun w' : World => w'.rangeAt b (off + j * 32) x.cells) (w2.setCell ⟨gp, 1, none⟩ (.slice (some ⟨gb, 0, none⟩) (o.length + 1) cb)) := fun i u hu => by rw [World.cell?_of_block (w := w2) (heap_setCell_other _ _ _ _ hbne)]; exact hT2 i u hu
                  refine wpOp_of_wp rfl rfl (hideK ?_)
                  intro K' hK'
                  go_simp
                  rw [hK'.out]
                  refine ⟨hT3, ?_⟩
                  try dsimp only
                  try simp only [Act.put, List.getElem_toArray, List.getElem_cons_succ, List.getElem_cons_zero, List.setIfInBounds_toArray, List.set_cons_zero, List.set_cons_succ]
                  refine wpAnyH_done (by kernel_rfl) ?_ _
                  have Z : Hid (SW w (w2.setCell ⟨gp, 1, none⟩ (.slice (some ⟨gb, 0, none⟩) (o.length + 1) cb)) gp B1' k (.slice (some ⟨gb, 0, none⟩) (o.length + 1) cb) (some ⟨b, off, none⟩) L (o ++ [x])) := HSW.out.step (below_drawn' (below_alloc wr.drew _)) g1 o1
                  clear o1 g1 t1 R1 hT0 hT2 hT3 cx fx hgp hbl c1
                  go_wp2
                  go_roundw
                  case rel => exact ⟨j + 1, ⟨some ⟨gb, 0, none⟩, o.length + 1, cb⟩, by omega, by go_num, by rw [HFT.out]; exact Z.out⟩
                  case measure => simp [intOf]; omega
                · skip
                  refine wpOp_build1_cl slIt rfl rfl _ rfl x (.agg X) rfl hX (by decide) ?_
                  intro R1
                  have hT1 : (fun w' : World => w'.rangeAt b (off + j * 32) x.cells) (wr.drew.alloc (.cells (flat clIt [x]).toArray 114)) := range_below (below_alloc _ _) hlt hT0
                  refine ⟨hT1, ?_⟩
                  try dsimp only
                  try simp only [Act.put, List.getElem_toArray, List.getElem_cons_succ, List.getElem_cons_zero, List.setIfInBounds_toArray, List.set_cons_zero, List.set_cons_succ]
                  refine wpAnyH_all (rs := [1]) (by kernel_rfl) (by simp) ?_
                  intro jj hjj
                  simp only [List.mem_cons, List.not_mem_nil, or_false] at hjj
                  subst hjj
                  have c1' : (wr.alloc (.cells (flat clIt [x]).toArray 114)).cell? ⟨gp, 1, none⟩ = some (.slice s.p s.n s.c) := cell_keep (below_alloc wr _) c1
                  refine wpOp_of_wp rfl rfl (hideK ?_)
                  intro K' hK'
                  go_simp
                  rw [hK'.out]
                  refine ⟨hT1, ?_⟩
                  try dsimp only
                  try simp only [Act.put, List.getElem_toArray, List.getElem_cons_succ, List.getElem_cons_zero, List.setIfInBounds_toArray, List.set_cons_zero, List.set_cons_succ]
                  refine wpAnyH_all (rs := [7]) (by kernel_rfl) (by simp) ?_
                  intro jj hjj
                  simp only [List.mem_cons, List.not_mem_nil, or_false] at hjj
                  subst hjj
                  refine wpOp_append_cl slIt rfl rfl _ _ rfl B1' _ o rfl (by exact HSW.out.own.below (below_drawn' (below_alloc wr.drew _))) _ 1 _ [x] rfl rfl R1 (by omega) (by simp only [maxLen]; omega) (by omega) (by have := HSW.out.low; simp; omega) ?_
                  intro v1 w2 o1 g1 t1 f1
                  obtain ⟨gb, cb, rfl⟩ := f1
                  have hl2 : (o ++ [x]).length = o.length + 1 := by simp
                  rw [hl2] at o1 t1
                  rw [hl2]
                  have hbl : w2.heap[b]? = wr.heap[b]? := by
                    rw [g1.block b (by simp; omega) (fun e => by have := (HSW.out.own.lt b e.symm).1; rcases HSW.out.hp with h | h; (rw [h] at hm; simp at hm; omega); have := (h b off rfl).1; omega)]
                    exact Below.heap_alloc wr.drew _ b hlt
                  have hT2 : (fun w' : World => w'.rangeAt b (off + j * 32) x.cells) w2 := fun i u hu => by rw [World.cell?_of_block (w := wr) hbl]; exact rg.out i u hu
                  refine ⟨hT2, ?_⟩
                  try dsimp only
                  try simp only [Act.put, List.getElem_toArray, List.getElem_cons_succ, List.getElem_cons_zero, List.setIfInBounds_toArray, List.set_cons_zero, List.set_cons_succ]
                  refine wpAnyH_take (i := 8) (v := (.pointer (some ⟨gp, 1, none⟩))) rfl (by kernel_rfl) (by kernel_rfl) (by kernel_rfl) (fun _ _ _ h => h) (Or.inl ⟨by rfl, fun wx hx => by go_simp⟩) hT2 ?_
                  try dsimp only
                  try simp only [Act.put, List.getElem_toArray, List.getElem_cons_succ, List.getElem_cons_zero, List.setIfInBounds_toArray, List.set_cons_zero, List.set_cons_succ]
                  refine wpAnyH_all (rs := [9]) (by kernel_rfl) (by simp) ?_
                  intro jj hjj
                  simp only [List.mem_cons, List.not_mem_nil, or_false] at hjj
                  subst hjj
                  have hgp : w2.heap[gp]? = some (.cells #[.int .i64 k, .slice s.p s.n s.c] 31) := by
                    rw [g1.block gp (by have := lt_of_blk HSW.out.m; simp; omega) (fun e => by have := (HSW.out.own.lt gp e.symm).1; have := HSW.out.hg; omega)]
                    exact (Below.heap_alloc wr.drew _ gp (lt_of_blk HSW.out.m)).trans HSW.out.m
                  have cx : w2.cell? ⟨gp, 1, none⟩ = some (.slice s.p s.n s.c) := by rw [cell_of_row _ _ _ _ _ _ hgp]; rfl
                  have fx : w2.frozen? ⟨gp, 1, none⟩ = false := frozen_of_row _ _ _ _ _ hgp
                  have hbne : b ≠ gp := by rcases HSW.out.hp with h | h; (rw [h] at hm; simp at hm; omega); exact (h b off rfl).2
                  have hT3 : (fun w' : World => w'.rangeAt b (off + j * 32) x.cells) (w2.setCell ⟨gp, 1, none⟩ (.slice (some ⟨gb, 0, none⟩) (o.length + 1) cb)) := fun i u hu => by rw [World.cell?_of_block (w := w2) (heap_setCell_other _ _ _ _ hbne)]; exact hT2 i u hu
                  refine wpOp_of_wp rfl rfl (hideK ?_)
                  intro K' hK'
                  go_simp
                  rw [hK'.out]
                  refine ⟨hT3, ?_⟩
                  try dsimp only
                  try simp only [Act.put, List.getElem_toArray, List.getElem_cons_succ, List.getElem_cons_zero, List.setIfInBounds_toArray, List.set_cons_zero, List.set_cons_succ]
                  refine wpAnyH_done (by kernel_rfl) ?_ _
                  have Z : Hid (SW w (w2.setCell ⟨gp, 1, none⟩ (.slice (some ⟨gb, 0, none⟩) (o.length + 1) cb)) gp B1' k (.slice (some ⟨gb, 0, none⟩) (o.length + 1) cb) (some ⟨b, off, none⟩) L (o ++ [x])) := HSW.out.step (below_drawn' (below_alloc wr.drew _)) g1 o1
                  clear o1 g1 t1 R1 hT0 hT2 hT3 cx fx hgp hbl c1
                  go_wp2
                  go_roundw
                  case rel => exact ⟨j + 1, ⟨some ⟨gb, 0, none⟩, o.length + 1, cb⟩, by omega, by go_num, by rw [HFT.out]; exact Z.out⟩
                  case measure => simp [intOf]; omega
              · have hiB : inRg low high x = false := by simp [inRg]; omega
                rw [if_neg (by rw [hiB]; simp), List.append_nil] at hft
                rw [← hft] at HSW
                clear hft
                go_wp2
                go_roundw
                case rel => exact ⟨j + 1, s, by omega, by go_num, HSW.out⟩
                case measure => simp [intOf]; omega
            · have hiB : inRg low high x = false := by simp [inRg]; omega
              rw [if_neg (by rw [hiB]; simp), List.append_nil] at hft
              rw [← hft] at HSW
              clear hft
              go_wp2
              go_roundw
              case rel => exact ⟨j + 1, s, by omega, by go_num, HSW.out⟩
              case measure => simp [intOf]; omega
          · obtain rfl : j = m := by omega
            have et : L.take j = L := List.take_of_length_le (by omega)
            rw [et] at sw
            have HSW : Hid (SW w wr gp B1' k (.slice s.p s.n s.c) p L (L.filter (inRg low high))) := sw
            clear sw
            have HG : Hid ((wr.setRow w.heap.size #[.int .i64 k, .slice s.p s.n s.c]).heap[w.heap.size]? = some (.cells #[.int .i64 k, .slice s.p s.n s.c] 31)) := setRow_blk HSW.out.r
            go_wp2_with (first | (refine load_pk rfl _ rfl _ rfl _ _ (by exact HSW.out.m) ?_) | (refine store_pk rfl _ _ rfl k s rfl rfl (by exact HSW.out.r) rfl ?_))
            refine bodyPost_ret (results_pk rfl _ _ _ _ _ rfl (by exact HG.out)) rfl ⟨_, by rw [HE.out, HF.out]; rfl, ?_, below_setRow _ HSW.out.below (Nat.le_refl _)⟩
            rw [HL.out]
            exact (HSW.out.own.chg fun j hj => setRow_other _ _ _ _ (by have := (HSW.out.own.lt j hj).1; have := HSW.out.hg; have := HSW.out.hw; omega)).mono (by have := HSW.out.hg; have := HSW.out.hw; omega)
      · have h2' : isRg low high = false := by simpa using h2
        have HE : Hid (sndE t n low high = 8) := by unfold Hid sndE; rw [if_pos h1, if_neg h0, if_neg h2]
        have HL : Hid (sndL t D n low high = []) := by unfold Hid sndL; rw [if_neg (by rw [HE.out]; decide)]
        have HF : Hid (sndF t n low high = 0) := by unfold Hid sndF; rw [if_neg (by rw [HE.out]; decide)]
        clear h hl
        go_enter Tryz.func58, Tryz.ntmps58
        go_wp2_with (first | (go_at_call 54; refine (isNode_any _ _ _ _ t (HW.out.below (below_alloc _ _)).treeAt _).mono ?_; rintro e w1 ⟨rfl, rfl⟩; rw [h1]) | (go_at_call 71; refine (isRange_any _ _ _).mono ?_; rintro e w1 ⟨rfl, rfl⟩; rw [h2']))
        exact bodyPost_ret (results_pk rfl _ _ _ _ _ rfl (by exact heap_alloc_new _ _)) rfl ⟨_, by rw [HE.out, HF.out]; rfl, by rw [HL.out]; exact Own.nil _ _ _, below_alloc _ _⟩
  · have h1' : isNd t n = false := by simpa using h1
    have HE : Hid (sndE t n low high = 2) := by unfold Hid sndE; rw [if_neg h1]
    have HL : Hid (sndL t D n low high = []) := by unfold Hid sndL; rw [if_neg (by rw [HE.out]; decide)]
    have HF : Hid (sndF t n low high = 0) := by unfold Hid sndF; rw [if_neg (by rw [HE.out]; decide)]
    clear h hl
    go_enter Tryz.func58, Tryz.ntmps58
    go_wp2_with (go_at_call 54; refine (isNode_any _ _ _ _ t (HW.out.below (below_alloc _ _)).treeAt _).mono ?_; rintro e w1 ⟨rfl, rfl⟩; rw [h1'])
    exact bodyPost_ret (results_pk rfl _ _ _ _ _ rfl (by exact heap_alloc_new _ _)) rfl ⟨_, by rw [HE.out, HF.out]; rfl, by rw [HL.out]; exact Own.nil _ _ _, below_alloc _ _⟩
end Go.Proofs.YtpglbakcjihohaaGreat

/-! The document's Deliver, for every node and packet. -/
namespace Go.Proofs.YtpglbakcjihohaaGreat
open Go.RowKit
set_option maxRecDepth 100000

theorem dlv_done {w w5 : World} {own : Ghost} {B0 bw : Nat} {t : List Int} {wid : Int} {D : List Nd} {vt : Sl} {gn cn : Nat} {C : List NdC} (h : WRep w own B0 bw t wid D vt ⟨some ⟨gn, 0, none⟩, t.length, cn⟩ C) (hB0 : B0 ≤ w.heap.size) (k : Nat) (c : NdC) (d : Nd) (hc : C[k]? = some c) (hd : D[k]? = some d)
    (s5 : Sl) (l' : List It) (hb5 : Below w.heap.size w w5) (hown : Own clIt w5 w.heap.size 114 s5.val l') (hok : AllOkI l') (hlen : l'.length ≤ 160) :
    ∃ own' C', WRep (w5.setCell ⟨gn, k * 46 + 44, none⟩ s5.val) own' B0 bw t wid (D.set k { d with items := l' }) vt ⟨some ⟨gn, 0, none⟩, t.length, cn⟩ C' ∧ Same w own own' ∧ Fr own isWd w (w5.setCell ⟨gn, k * 46 + 44, none⟩ s5.val) := by
  have rep := h.rep k c d hc hd
  have ok := h.ok k d hd
  have tgn : own gn = .wd 2 := h.tn gn rfl
  have hgn : gn < w.heap.size := (h.nodes.lt gn rfl).2
  have hkC : k < C.length := (List.getElem?_eq_some_iff.1 hc).1
  have hs5 := hb5.size
  have blk : ∀ j, j ≠ gn → (w5.setCell ⟨gn, k * 46 + 44, none⟩ s5.val).heap[j]? = w5.heap[j]? := fun j hne => heap_setCell_other _ _ _ _ (by show j ≠ gn; exact hne)
  have g : w.grownBy (w5.setCell ⟨gn, k * 46 + 44, none⟩ s5.val) (some gn) := by
    refine ⟨?_, ?_, ?_, by simp; omega, fun j hj hne => ?_⟩
    · exact hb5.os
    · exact hb5.tape
    · exact hb5.output
    · rw [blk j (fun e => hne (by rw [e]))]; exact hb5.block j hj
  have far : ∀ (v : Value) (i : Nat) {β : Type} {C : Cl β} {e : TypeId} {l : List β}, i ≠ 2 → TgV own v (.wd i) → Own C w B0 e v l → Own C (w5.setCell ⟨gn, k * 46 + 44, none⟩ s5.val) B0 e v l := fun v i _ _ _ _ hi ht ho => ho.chg fun j hj => g.block j (ho.lt j hj).2 fun e => by
    have := ht j hj
    rw [Option.some.inj e, tgn] at this
    simp at this
    omega
  obtain ⟨own', same, f, t1, _⟩ := renew h k (4 * k + 5) 0 s5.val (.slice none 0 0) (fun j hj => (hown.lt j hj).1) (fun j hj => by cases hj) (fun j _ h2 => by cases h2) g
  have hnd : Own clNd w5 B0 98 (.slice (some ⟨gn, 0, none⟩) t.length cn) C := h.nodes.below hb5
  have hn8 := hnd.cell_set k c { c with vi := s5 } hc 44 s5.val (by decide) (NdC.set_vi c s5)
  refine ⟨own', _, h.upd k _ _ f same hn8 ⟨rep.lcl, rep.lmk, rep.kcl, rep.kmk, far _ _ (by omega) rep.tl rep.lev, far _ _ (by omega) rep.tk rep.kev, ?_, far _ _ (by omega) rep.ts rep.saved, rep.tl.own same rep.lev (by simp), rep.tk.own same rep.kev (by simp), t1, rep.ts.own same rep.saved (by simp)⟩ ⟨ok.lev, ok.kev, ok.lmk, ok.kmk, hok, ok.saved, hlen, ok.ls⟩, same, f.mono fun t ht => ofNode_wd ht⟩
  exact (hown.chg fun j hj => blk j (by have := (hown.lt j hj).1; omega)).mono (by omega)
/-- What Deliver has in memory. -/
structure DW (w wr : World) (own : Ghost) (B0 bw : Nat) (t : List Int) (wid : Int) (D : List Nd) (vt : Sl) (gn cn k : Nat) (d : Nd) (fr : Int) (p : Option Addr) (m c : Nat) (l : List It) (j : Nat) : Prop where
  rep : ∃ own' C', WRep wr own' B0 bw t wid (D.set k { d with items := (l.take j).foldl jnd d.items }) vt ⟨some ⟨gn, 0, none⟩, t.length, cn⟩ C' ∧ Same w own own' ∧ Fr own isWd w wr
  box : wr.heap[w.heap.size]? = some (.cells #[.int .i64 fr, .slice p m c] 31)
  rows : RowsAt clIt wr p l
theorem DW.below {w wr w' : World} {own : Ghost} {B0 bw : Nat} {t : List Int} {wid : Int} {D : List Nd} {vt : Sl} {gn cn k : Nat} {d : Nd} {fr : Int} {p : Option Addr} {m c : Nat} {l : List It} {j : Nat} (h : DW w wr own B0 bw t wid D vt gn cn k d fr p m c l j) (hb : Below wr.heap.size wr w') : DW w w' own B0 bw t wid D vt gn cn k d fr p m c l j := by
  obtain ⟨⟨own', C', h1, h2, h3⟩, h4, h5⟩ := h
  exact ⟨⟨own', C', h1.below hb, h2, h3.trans h2 (Fr.of_below hb)⟩, keep hb h4, h5.below hb⟩
theorem DW.step {w wr w5 : World} {own own1 : Ghost} {B0 bw : Nat} {t : List Int} {wid : Int} {D : List Nd} {vt : Sl} {gn cn k : Nat} {d : Nd} {fr : Int} {p : Option Addr} {m c : Nat} {l : List It} {j : Nat} {C1 : List NdC} {c1 : NdC} (hB0 : B0 ≤ w.heap.size)
    (h1 : WRep wr own1 B0 bw t wid (D.set k { d with items := (l.take j).foldl jnd d.items }) vt ⟨some ⟨gn, 0, none⟩, t.length, cn⟩ C1) (h2 : Same w own own1) (h3 : Fr own isWd w wr) (h4 : wr.heap[w.heap.size]? = some (.cells #[.int .i64 fr, .slice p m c] 31)) (h5 : RowsAt clIt wr p l)
    (hk : k < D.length) (hc1 : C1[k]? = some c1) (x : It) (hx : l[j]? = some x) (hb5 : Below wr.heap.size wr w5) (s5 : Sl) (hown : Own clIt w5 wr.heap.size 114 s5.val (jnd ((l.take j).foldl jnd d.items) x)) (hG : Good (jnd ((l.take j).foldl jnd d.items) x))
    (hgn : gn < w.heap.size) (hnf : ∀ b off, p = some ⟨b, off, none⟩ → b ≠ gn) : DW w (w5.setCell ⟨gn, k * 46 + 44, none⟩ s5.val) own B0 bw t wid D vt gn cn k d fr p m c l (j + 1) := by
  obtain ⟨own2, C2, z1, z2, z3⟩ := dlv_done h1 (Nat.le_trans hB0 h3.size) k c1 _ hc1 (by rw [List.getElem?_set_self hk]) s5 _ hb5 hown hG.ok hG.len
  refine ⟨⟨own2, C2, ?_, h2.trans h3.size z2, h3.trans h2 z3⟩, ?_, ?_⟩
  · rw [List.set_set] at z1
    rw [dlv_take l d.items j x hx]; exact z1
  · rw [heap_setCell_other _ _ _ _ (by show w.heap.size ≠ gn; omega)]; exact keep hb5 h4
  · exact (h5.below hb5).chg (by simp) fun b off e => heap_setCell_other _ _ _ _ (by show b ≠ gn; exact hnf b off e)
set_option maxHeartbeats 4000000 in
theorem rDeliver_any (w : World) (own : Ghost) (B0 bw : Nat) (t : List Int) (wid : Int) (D : List Nd) (vt vn : Sl) (C : List NdC) (h : WRep w own B0 bw t wid D vt vn C) (n fr : Int) (l : List It) (p : Option Addr) (m c : Nat) (hB0 : B0 ≤ w.heap.size) (hm : l.length = m) (hr : RowsAt clIt w p l) (hok : AllOkI l) (hml : m ≤ 1000000000)
    (hfar : l ≠ [] → ∀ b off, p = some ⟨b, off, none⟩ → ∀ i, own b ≠ .wd i) (hG : ∀ (k : Nat) (d : Nd), D[k]? = some d → Good d.items) :
    Calls Tryz.prog 61 #[.pointer (some ⟨bw, 0, none⟩), .int .i64 n, .agg #[.int .i64 fr, .slice p m c]] w fun e w' => e = .returned (.int .i64 (delE t n fr l)) ∧ ∃ own' C', WRep w' own' B0 bw t wid (delD t D n fr l) vt vn C' ∧ Same w own own' ∧ Fr own isWd w w' := by
  have h8 := h.T.le
  have HW0 : Hid (WRep w own B0 bw t wid D vt vn C) := h
  have HSAME : Hid (delE t n fr l ≠ 0 → ∀ w', Below w.heap.size w w' → ∃ own' C', WRep w' own' B0 bw t wid (delD t D n fr l) vt vn C' ∧ Same w own own' ∧ Fr own isWd w w') := fun he w' hb => ⟨own, C, by unfold delD; rw [if_neg he]; exact h.below hb, Same.refl _ _, Fr.of_below hb⟩
  have HR : Hid (RowsAt clIt w p l) := hr
  clear hr
  by_cases h1 : isNd t n = true
  · obtain ⟨fb, hfb⟩ : ∃ fb, fair t n fr l = fb := ⟨_, rfl⟩
    cases fb with
    | true =>
      obtain ⟨k, cc, d, rfl, hk, hc, hd, rep, ok⟩ := h.at n h1
      obtain ⟨gn, cn, rfl⟩ := h.row
      have HE : Hid (delE t k fr l = 0) := by unfold Hid delE; rw [if_pos h1, if_pos hfb]
      have HD : Hid (delD t D k fr l = D.set k { d with items := l.foldl jnd d.items }) := by unfold Hid delD; rw [if_pos HE.out]; simp [hd]
      have HIN : Hid (AllIn l) := fair_in h8 hfb hok
      have HGD : Hid (Good d.items) := hG k d hd
      have HT : Hid (Tree t) := h.T
      have tgn : own gn = .wd 2 := h.tn gn rfl
      have hgn : gn < w.heap.size := (h.nodes.lt gn rfl).2
      have tbw := h.tm
      have hbg : bw ≠ gn := fun e => by rw [e, tgn] at tbw; simp at tbw
      have hbw := lt_of_blk h.main
      have hDk : D.set k { d with items := ([] : List It).foldl jnd d.items } = D := by
        obtain ⟨hk', hd'⟩ := List.getElem?_eq_some_iff.1 hd
        apply List.ext_getElem?
        intro i
        rw [List.getElem?_set]
        by_cases e : k = i
        · subst e; rw [if_pos rfl, if_pos hk', hd]; rfl
        · rw [if_neg e]
      have HDW : Hid (DW w (w.alloc (.cells #[.int .i64 fr, .slice p m c] 31)) own B0 bw t wid D vt gn cn k d fr p m c l 0) := by
        refine ⟨⟨own, C, ?_, Same.refl _ _, Fr.of_below (below_alloc _ _)⟩, heap_alloc_new _ _, HR.out.below (below_alloc _ _)⟩
        rw [List.take_zero, hDk]; exact h.below (below_alloc _ _)
      have HNF : Hid (l ≠ [] → ∀ b off, p = some ⟨b, off, none⟩ → b ≠ gn) := fun hl b off e eb => hfar hl b off e 2 (by rw [eb]; exact tgn)
      obtain ⟨N, hN⟩ : ∃ N, t.length = N := ⟨_, rfl⟩
      have HNN : Hid (t.length = N) := hN
      rw [hN] at hk h8
      clear h rep ok hG hfar tgn tbw HSAME hDk hok hN
      have k0 : (0 : Int) ≤ (k : Int) := by omega
      have k1 : (k : Int) < (N : Int) := by omega
      go_enter Tryz.func61, Tryz.ntmps61
      go_wp2_with (go_at_call 54; refine (isNode_any _ _ _ _ t (HW0.out.below (below_alloc _ _)).treeAt _).mono ?_; rintro e w1 ⟨rfl, hw1⟩; subst hw1; rw [h1])
      go_wp2_with (first | (refine load_pk rfl _ rfl _ rfl _ _ (by exact heap_alloc_new _ _) ?_) | (go_at_call 85; refine (fair_any _ _ _ _ t (HW0.out.below (below_alloc _ _)).treeAt HT.out _ _ l _ _ _ hm (HR.out.below (below_alloc _ _)) hml).mono ?_; rintro e w1 ⟨rfl, hb1⟩; rw [hfb]))
      have HDW1 : Hid (DW w w1 own B0 bw t wid D vt gn cn k d fr p m c l 0) := HDW.out.below hb1
      obtain ⟨bx, hbx⟩ : ∃ bx, bx = w.heap.size := ⟨_, rfl⟩
      have HBX : Hid (bx = w.heap.size) := hbx
      clear HDW hb1 HR hfb
      rw [← hbx]
      clear hbx
      go_loopw [9] (fun i wr => ∃ j : Nat, j ≤ m ∧ i = .int .i64 j ∧ DW w wr own B0 bw t wid D vt gn cn k d fr p m c l j) (fun i _ => m - (intOf i).toNat)
      case atStart => exact ⟨0, by omega, rfl, HDW1.out⟩
      case round =>
        clear HDW1
        obtain ⟨j, hj, rfl, dw⟩ := hrel
        have HDJ : Hid (DW w wr own B0 bw t wid D vt gn cn k d fr p m c l j) := dw
        have cb : wr.cell? ⟨bx, 1, none⟩ = some (.slice p m c) := by rw [HBX.out, cell_of_row _ _ _ _ _ _ dw.box]; rfl
        by_cases hlj : j < m
        · obtain ⟨x, hx⟩ : ∃ x, l[j]? = some x := ⟨_, List.getElem?_eq_getElem (by omega)⟩
          obtain ⟨b, off, rfl, hlt, hcx⟩ := dw.rows.pos j (by omega)
          obtain ⟨⟨own1, C1, wr1, s1, f1⟩, box, rows⟩ := dw
          have hkD : k < D.length := by rw [HW0.out.ld, HNN.out]; exact hk
          obtain ⟨c1, hc1⟩ : ∃ c1, C1[k]? = some c1 := ⟨_, List.getElem?_eq_getElem (by rw [wr1.lc, HNN.out]; exact hk)⟩
          obtain ⟨DJ, hDJ⟩ : ∃ DJ, DJ = (l.take j).foldl jnd d.items := ⟨_, rfl⟩
          have rep1 := wr1.rep k c1 { d with items := (l.take j).foldl jnd d.items } hc1 (by rw [List.getElem?_set_self hkD])
          have hit : Own clIt wr B0 114 c1.vi.val DJ := by rw [hDJ]; exact rep1.items
          have HIT : Hid (DJ.length = c1.vi.n ∧ RowsAt clIt wr c1.vi.p DJ) := hit.sl
          have hnodes : Own clNd wr B0 98 (.slice (some ⟨gn, 0, none⟩) t.length cn) C1 := wr1.nodes
          have c2 : wr.cell? ⟨bw, 2, none⟩ = some (.slice (some ⟨gn, 0, none⟩) N cn) := by rw [← HNN.out]; exact wr1.rowcell
          have c44 : wr.cell? ⟨gn, k * 46 + 44, none⟩ = some (.slice c1.vi.p c1.vi.n c1.vi.c) := hnodes.cell_at k c1 hc1 44 _ c1.get_vi
          have HBK : Hid (∃ cur, wr.heap[gn]? = some (.cells cur 98)) := hnodes.blk
          have hGj : Good DJ := by rw [hDJ]; exact HGD.out.dlv (HIN.out.take j)
          have HGJ : Hid (Good (jnd DJ x)) := hGj.jnd (HIN.out x (List.mem_of_getElem? hx))
          have hlen : c1.vi.n ≤ 1000000 := by have := hGj.len; have := HIT.out.1; omega
          have HW1 : Hid (WRep wr own1 B0 bw t wid (D.set k { d with items := (l.take j).foldl jnd d.items }) vt ⟨some ⟨gn, 0, none⟩, t.length, cn⟩ C1) := wr1
          have HS1 : Hid (Same w own own1 ∧ Fr own isWd w wr ∧ wr.heap[w.heap.size]? = some (.cells #[.int .i64 fr, .slice (some ⟨b, off, none⟩) m c] 31) ∧ RowsAt clIt wr (some ⟨b, off, none⟩) l) := ⟨s1, f1, box, rows⟩
          have HDE : Hid (DJ = (l.take j).foldl jnd d.items) := hDJ
          have rg : wr.rangeAt b (off + j * 32) x.cells := hcx j x hx
          have hlne : l ≠ [] := fun e => by rw [e] at hm; simp at hm; omega
          have hbgn : b ≠ gn := HNF.out hlne b off rfl
          have hbxg : bx ≠ gn := by have := HBX.out; omega
          have HX : Hid (l[j]? = some x) := hx
          obtain ⟨⟨vp, vn, vc⟩, hvi⟩ : ∃ vi, vi = c1.vi := ⟨_, rfl⟩
          rw [← hvi] at HIT c44 hlen
          replace c44 : wr.cell? ⟨gn, k * 46 + 44, none⟩ = some (.slice vp vn vc) := c44
          replace hlen : vn ≤ 1000000 := hlen
          have HIT' : Hid (DJ.length = vn ∧ RowsAt clIt wr vp DJ) := HIT
          have j0 : (0 : Int) ≤ (j : Int) := by omega
          have j1 : (j : Int) < (m : Int) := by omega
          clear wr1 s1 f1 box rows rep1 hit hnodes hGj hDJ hcx hx hvi HIT HDJ
          go_upto_region 10 with fail
          obtain ⟨X, hX⟩ : ∃ X, IsIt X x := ⟨_, isIt_of x⟩
          have hT0 : (fun w' : World => w'.cell? ⟨bw, 2, none⟩ = some (.slice (some ⟨gn, 0, none⟩) N cn) ∧ w'.cell? ⟨bx, 1, none⟩ = some (.slice (some ⟨b, off, none⟩) m c) ∧ w'.rangeAt b (off + j * 32) x.cells) wr.drew := ⟨c2, cb, rg⟩
          refine wp_region_held (S := fun w' : World => w'.cell? ⟨bw, 2, none⟩ = some (.slice (some ⟨gn, 0, none⟩) N cn) ∧ w'.cell? ⟨bx, 1, none⟩ = some (.slice (some ⟨b, off, none⟩) m c) ∧ w'.rangeAt b (off + j * 32) x.cells) mixed ?_
          refine wpAnyH_take (i := 0) (v := (.pointer (some ⟨bw, 0, none⟩))) rfl (by kernel_rfl) (by kernel_rfl) (by kernel_rfl) (fun _ _ _ h => h) (Or.inl ⟨by rfl, fun wx hx => by go_simp⟩) hT0 ?_
          try dsimp only
          try simp only [Act.put, List.getElem_toArray, List.getElem_cons_succ, List.getElem_cons_zero, List.setIfInBounds_toArray, List.set_cons_zero, List.set_cons_succ]
          refine wpAnyH_take (i := 1) (v := (.pointer (some ⟨bw, 0, none⟩))) rfl (by kernel_rfl) (by kernel_rfl) (by kernel_rfl) (fun _ _ _ h => h) (Or.inl ⟨by rfl, fun wx hx => by go_simp⟩) hT0 ?_
          try dsimp only
          try simp only [Act.put, List.getElem_toArray, List.getElem_cons_succ, List.getElem_cons_zero, List.setIfInBounds_toArray, List.set_cons_zero, List.set_cons_succ]
          refine wpAnyH_take (i := 2) (v := (.pointer (some ⟨bw, 2, none⟩))) rfl (by kernel_rfl) (by kernel_rfl) (by kernel_rfl) (fun _ _ _ h => h) (Or.inl ⟨by rfl, fun wx hx => by go_simp⟩) hT0 ?_
          try dsimp only
          try simp only [Act.put, List.getElem_toArray, List.getElem_cons_succ, List.getElem_cons_zero, List.setIfInBounds_toArray, List.set_cons_zero, List.set_cons_succ]
          refine wpAnyH_take (i := 3) (v := (.slice (some ⟨gn, 0, none⟩) N cn)) rfl (by kernel_rfl) (by kernel_rfl) (by kernel_rfl) (fun _ _ _ h => h) (Or.inl ⟨by rfl, fun wx hx => by have hx1 := hx.1; go_simp⟩) hT0 ?_
          try dsimp only
          try simp only [Act.put, List.getElem_toArray, List.getElem_cons_succ, List.getElem_cons_zero, List.setIfInBounds_toArray, List.set_cons_zero, List.set_cons_succ]
          refine wpAnyH_take (i := 4) (v := (.int .i64 k)) rfl (by kernel_rfl) (by kernel_rfl) (by kernel_rfl) (fun _ _ _ h => h) (Or.inl ⟨by rfl, fun wx hx => by go_simp⟩) hT0 ?_
          try dsimp only
          try simp only [Act.put, List.getElem_toArray, List.getElem_cons_succ, List.getElem_cons_zero, List.setIfInBounds_toArray, List.set_cons_zero, List.set_cons_succ]
          refine wpAnyH_take (i := 5) (v := (.pointer (some ⟨bw, 0, none⟩))) rfl (by kernel_rfl) (by kernel_rfl) (by kernel_rfl) (fun _ _ _ h => h) (Or.inl ⟨by rfl, fun wx hx => by go_simp⟩) hT0 ?_
          try dsimp only
          try simp only [Act.put, List.getElem_toArray, List.getElem_cons_succ, List.getElem_cons_zero, List.setIfInBounds_toArray, List.set_cons_zero, List.set_cons_succ]
          refine wpAnyH_take (i := 6) (v := (.pointer (some ⟨bw, 0, none⟩))) rfl (by kernel_rfl) (by kernel_rfl) (by kernel_rfl) (fun _ _ _ h => h) (Or.inl ⟨by rfl, fun wx hx => by go_simp⟩) hT0 ?_
          try dsimp only
          try simp only [Act.put, List.getElem_toArray, List.getElem_cons_succ, List.getElem_cons_zero, List.setIfInBounds_toArray, List.set_cons_zero, List.set_cons_succ]
          refine wpAnyH_take (i := 7) (v := (.pointer (some ⟨bw, 2, none⟩))) rfl (by kernel_rfl) (by kernel_rfl) (by kernel_rfl) (fun _ _ _ h => h) (Or.inl ⟨by rfl, fun wx hx => by go_simp⟩) hT0 ?_
          try dsimp only
          try simp only [Act.put, List.getElem_toArray, List.getElem_cons_succ, List.getElem_cons_zero, List.setIfInBounds_toArray, List.set_cons_zero, List.set_cons_succ]
          refine wpAnyH_take (i := 8) (v := (.slice (some ⟨gn, 0, none⟩) N cn)) rfl (by kernel_rfl) (by kernel_rfl) (by kernel_rfl) (fun _ _ _ h => h) (Or.inl ⟨by rfl, fun wx hx => by have hx1 := hx.1; go_simp⟩) hT0 ?_
          try dsimp only
          try simp only [Act.put, List.getElem_toArray, List.getElem_cons_succ, List.getElem_cons_zero, List.setIfInBounds_toArray, List.set_cons_zero, List.set_cons_succ]
          refine wpAnyH_take (i := 9) (v := (.int .i64 k)) rfl (by kernel_rfl) (by kernel_rfl) (by kernel_rfl) (fun _ _ _ h => h) (Or.inl ⟨by rfl, fun wx hx => by go_simp⟩) hT0 ?_
          try dsimp only
          try simp only [Act.put, List.getElem_toArray, List.getElem_cons_succ, List.getElem_cons_zero, List.setIfInBounds_toArray, List.set_cons_zero, List.set_cons_succ]
          refine wpAnyH_take (i := 10) (v := (.pointer (some ⟨gn, k * 46, none⟩))) rfl (by kernel_rfl) (by kernel_rfl) (by kernel_rfl) (fun _ _ _ h => h) (Or.inl ⟨by rfl, fun wx hx => by go_simp⟩) hT0 ?_
          try dsimp only
          try simp only [Act.put, List.getElem_toArray, List.getElem_cons_succ, List.getElem_cons_zero, List.setIfInBounds_toArray, List.set_cons_zero, List.set_cons_succ]
          refine wpAnyH_take (i := 11) (v := (.pointer (some ⟨gn, k * 46 + 44, none⟩))) rfl (by kernel_rfl) (by kernel_rfl) (by kernel_rfl) (fun _ _ _ h => h) (Or.inl ⟨by rfl, fun wx hx => by go_simp⟩) hT0 ?_
          try dsimp only
          try simp only [Act.put, List.getElem_toArray, List.getElem_cons_succ, List.getElem_cons_zero, List.setIfInBounds_toArray, List.set_cons_zero, List.set_cons_succ]
          refine wpAnyH_take (i := 13) (v := (.pointer (some ⟨bx, 1, none⟩))) rfl (by kernel_rfl) (by kernel_rfl) (by kernel_rfl) (fun _ _ _ h => h) (Or.inl ⟨by rfl, fun wx hx => by go_simp⟩) hT0 ?_
          try dsimp only
          try simp only [Act.put, List.getElem_toArray, List.getElem_cons_succ, List.getElem_cons_zero, List.setIfInBounds_toArray, List.set_cons_zero, List.set_cons_succ]
          refine wpAnyH_take (i := 14) (v := (.slice (some ⟨b, off, none⟩) m c)) rfl (by kernel_rfl) (by kernel_rfl) (by kernel_rfl) (fun _ _ _ h => h) (Or.inl ⟨by rfl, fun wx hx => by have hx1 := hx.2.1; go_simp⟩) hT0 ?_
          try dsimp only
          try simp only [Act.put, List.getElem_toArray, List.getElem_cons_succ, List.getElem_cons_zero, List.setIfInBounds_toArray, List.set_cons_zero, List.set_cons_succ]
          refine wpAnyH_take (i := 15) (v := (.int .i64 j)) rfl (by kernel_rfl) (by kernel_rfl) (by kernel_rfl) (fun _ _ _ h => h) (Or.inl ⟨by rfl, fun wx hx => by go_simp⟩) hT0 ?_
          try dsimp only
          try simp only [Act.put, List.getElem_toArray, List.getElem_cons_succ, List.getElem_cons_zero, List.setIfInBounds_toArray, List.set_cons_zero, List.set_cons_succ]
          refine wpAnyH_take (i := 16) (v := (.pointer (some ⟨b, off + j * 32, none⟩))) rfl (by kernel_rfl) (by kernel_rfl) (by kernel_rfl) (fun _ _ _ h => h) (Or.inl ⟨by rfl, fun wx hx => by go_simp⟩) hT0 ?_
          try dsimp only
          try simp only [Act.put, List.getElem_toArray, List.getElem_cons_succ, List.getElem_cons_zero, List.setIfInBounds_toArray, List.set_cons_zero, List.set_cons_succ]
          refine wpAnyH_take (i := 17) (v := (.agg X)) rfl (by kernel_rfl) (by kernel_rfl) (by kernel_rfl) (fun _ _ _ h => h) (yieldsIf_load_it_mid (by rfl) _ rfl _ _ rfl X _ hX (fun wx hx => hx.2.2)) hT0 ?_
          try dsimp only
          try simp only [Act.put, List.getElem_toArray, List.getElem_cons_succ, List.getElem_cons_zero, List.setIfInBounds_toArray, List.set_cons_zero, List.set_cons_succ]
          refine wpAnyH_all (rs := [12]) (by kernel_rfl) (by simp) ?_
          intro jj hjj
          simp only [List.mem_cons, List.not_mem_nil, or_false] at hjj
          subst hjj
          refine wpOp_of_wp rfl rfl (hideK ?_)
          intro K' hK'
          go_simp
          rw [hK'.out]
          refine ⟨hT0, ?_⟩
          try dsimp only
          try simp only [Act.put, List.getElem_toArray, List.getElem_cons_succ, List.getElem_cons_zero, List.setIfInBounds_toArray, List.set_cons_zero, List.set_cons_succ]
          refine wpAnyH_all (rs := [18]) (by kernel_rfl) (by simp) ?_
          intro jj hjj
          simp only [List.mem_cons, List.not_mem_nil, or_false] at hjj
          subst hjj
          refine wpOp_of_wp rfl rfl ?_
          go_simp
          refine (joined_any x X hX DJ vp vn vc wr.drew HIT'.out.1 (by exact HIT'.out.2) hlen).mono ?_
          rintro e w5 ⟨v5, rfl, hown5, hb5⟩
          replace hb5 : Below wr.heap.size wr w5 := below_drawn' hb5
          replace hown5 : Own clIt w5 wr.heap.size 114 v5 (jnd DJ x) := hown5
          obtain ⟨s5, rfl⟩ : ∃ s5 : Sl, v5 = .slice s5.p s5.n s5.c := by obtain ⟨p, c, e, _⟩ := hown5.form; exact ⟨⟨p, _, c⟩, e⟩
          have hT1 : (fun w' : World => w'.cell? ⟨bw, 2, none⟩ = some (.slice (some ⟨gn, 0, none⟩) N cn) ∧ w'.cell? ⟨bx, 1, none⟩ = some (.slice (some ⟨b, off, none⟩) m c) ∧ w'.rangeAt b (off + j * 32) x.cells) w5 := ⟨cell_keep hb5 c2, cell_keep hb5 cb, range_below hb5 hlt rg⟩
          refine ⟨hT1, ?_⟩
          try dsimp only
          try simp only [Act.put, List.getElem_toArray, List.getElem_cons_succ, List.getElem_cons_zero, List.setIfInBounds_toArray, List.set_cons_zero, List.set_cons_succ]
          refine wpAnyH_take (i := 19) (v := (.pointer (some ⟨gn, k * 46, none⟩))) rfl (by kernel_rfl) (by kernel_rfl) (by kernel_rfl) (fun _ _ _ h => h) (Or.inl ⟨by rfl, fun wx hx => by go_simp⟩) hT1 ?_
          try dsimp only
          try simp only [Act.put, List.getElem_toArray, List.getElem_cons_succ, List.getElem_cons_zero, List.setIfInBounds_toArray, List.set_cons_zero, List.set_cons_succ]
          refine wpAnyH_take (i := 20) (v := (.pointer (some ⟨gn, k * 46 + 44, none⟩))) rfl (by kernel_rfl) (by kernel_rfl) (by kernel_rfl) (fun _ _ _ h => h) (Or.inl ⟨by rfl, fun wx hx => by go_simp⟩) hT1 ?_
          try dsimp only
          try simp only [Act.put, List.getElem_toArray, List.getElem_cons_succ, List.getElem_cons_zero, List.setIfInBounds_toArray, List.set_cons_zero, List.set_cons_succ]
          refine wpAnyH_all (rs := [21]) (by kernel_rfl) (by simp) ?_
          intro jj hjj
          simp only [List.mem_cons, List.not_mem_nil, or_false] at hjj
          subst hjj
          have cx : w5.cell? ⟨gn, k * 46 + 44, none⟩ = some (.slice vp vn vc) := cell_keep hb5 c44
          have fx : w5.frozen? ⟨gn, k * 46 + 44, none⟩ = false := by obtain ⟨cur, hcur⟩ := HBK.out; exact frozen_of_row _ _ _ _ _ (keep hb5 hcur)
          have hT2 : (fun w' : World => w'.cell? ⟨bw, 2, none⟩ = some (.slice (some ⟨gn, 0, none⟩) N cn) ∧ w'.cell? ⟨bx, 1, none⟩ = some (.slice (some ⟨b, off, none⟩) m c) ∧ w'.rangeAt b (off + j * 32) x.cells) (w5.setCell ⟨gn, k * 46 + 44, none⟩ (.slice s5.p s5.n s5.c)) := ⟨cell_set hbg hT1.1, cell_set hbxg hT1.2.1, fun i u hu => by rw [World.cell?_of_block (w := w5) (heap_setCell_other _ _ _ _ hbgn)]; exact hT1.2.2 i u hu⟩
          refine wpOp_of_wp rfl rfl (hideK ?_)
          intro K' hK'
          go_simp
          rw [hK'.out]
          refine ⟨hT2, ?_⟩
          try dsimp only
          try simp only [Act.put, List.getElem_toArray, List.getElem_cons_succ, List.getElem_cons_zero, List.setIfInBounds_toArray, List.set_cons_zero, List.set_cons_succ]
          refine wpAnyH_done (by kernel_rfl) ?_ _
          have Z : Hid (DW w (w5.setCell ⟨gn, k * 46 + 44, none⟩ (.slice s5.p s5.n s5.c)) own B0 bw t wid D vt gn cn k d fr (some ⟨b, off, none⟩) m c l (j + 1)) := by
            rw [HDE.out] at hown5 HGJ
            exact DW.step hB0 HW1.out HS1.out.1 HS1.out.2.1 HS1.out.2.2.1 HS1.out.2.2.2 hkD hc1 x HX.out hb5 s5 hown5 HGJ.out hgn (HNF.out hlne)
          clear hT0 hT1 hT2 cx fx hown5 hb5 c2 c44 cb
          go_wp2
          go_roundw
          case rel => exact ⟨j + 1, by omega, by go_num, Z.out⟩
          case measure => simp [intOf]; omega
        · obtain rfl : j = m := by omega
          clear dw
          go_wp2
          go_ret
          obtain ⟨⟨own1, C1, wr1, s1, f1⟩, _, _⟩ := HDJ.out
          rw [List.take_of_length_le (by omega)] at wr1
          exact ⟨by rw [HE.out]; rfl, own1, C1, by rw [HD.out]; exact wr1, s1, f1⟩
    | false =>
      have HE : Hid (delE t n fr l = 9) := by unfold Hid delE; rw [if_pos h1, if_neg (by rw [hfb]; simp)]
      clear h
      go_enter Tryz.func61, Tryz.ntmps61
      go_wp2_with (first | (go_at_call 54; refine (isNode_any _ _ _ _ t (HW0.out.below (below_alloc _ _)).treeAt _).mono ?_; rintro e w1 ⟨rfl, hw1⟩; subst hw1; rw [h1]) | (refine load_pk rfl _ rfl _ rfl _ _ (by exact heap_alloc_new _ _) ?_) | (go_at_call 85; refine (fair_any _ _ _ _ t (HW0.out.below (below_alloc _ _)).treeAt HW0.out.T _ _ l _ _ _ hm (HR.out.below (below_alloc _ _)) hml).mono ?_; rintro e w1 ⟨rfl, hb1⟩; rw [hfb]))
      go_ret
      exact ⟨by rw [HE.out]; rfl, HSAME.out (by rw [HE.out]; decide) _ (bnext (below_alloc _ _) hb1)⟩
  · have h1' : isNd t n = false := by simpa using h1
    have HE : Hid (delE t n fr l = 2) := by unfold Hid delE; rw [if_neg h1]
    clear h
    go_enter Tryz.func61, Tryz.ntmps61
    go_wp2_with (go_at_call 54; refine (isNode_any _ _ _ _ t (HW0.out.below (below_alloc _ _)).treeAt _).mono ?_; rintro e w1 ⟨rfl, hw1⟩; subst hw1; rw [h1'])
    go_ret
    exact ⟨by rw [HE.out]; rfl, HSAME.out (by rw [HE.out]; decide) _ (below_alloc _ _)⟩
end Go.Proofs.YtpglbakcjihohaaGreat

/-! A game in memory: the program's store, the document's, the packets laid by, the book; what a step leaves of it. -/
namespace Go.Proofs.YtpglbakcjihohaaGreat
open Go.RowKit
set_option maxRecDepth 100000

/-! ### Answers compared -/
theorem cellsOf_an : Tryz.prog.cellsOf 83 = 30 := by kernel_rfl
theorem keys_an {A : Array Value} {x : An} (hA : IsAn A x) (ok : x.Ok) : ∃ la, Tryz.prog.keyLits 4 83 A.toList = some la := by
  have hl : A.toList.length = 30 := by simpa using hA.size
  obtain ⟨a0, a1⟩ := ok.closed
  have e4 : (A.toList.drop 0).take 28 = x.sk.cells.toList := by
    rw [show A.toList = x.cells from hA, An.cells]
    rw [List.drop_zero, List.take_append_of_le_length (by simp [Sk.size_cells]), List.take_of_length_le (by simp [Sk.size_cells])]
  obtain ⟨y0, k0⟩ := keys_sk (A := x.sk.cells) (s := x.sk) rfl ok.sk
  rw [← e4] at k0
  obtain ⟨y1, k1⟩ := keys_bool (cs := A.toList) (b := x.sealed) (i := 28) 2 (by simpa using hA.get28)
  obtain ⟨y2, k2⟩ := keys_int (cs := A.toList) (n := x.closed) (k := .i64) (i := 29) 2 Tryz.underlying3 (by simpa using hA.get29) (by simp [Lit.wf, IntKind.min, IntKind.max, IntKind.signed, IntKind.bits]; omega)
  refine ⟨[y0, y1, y2].flatten, ?_⟩
  rw [show (4 : Nat) = 3 + 1 from rfl]
  unfold Program.keyLits
  rw [Tryz.underlying83]
  simp only [hl, cellsOf_an, cellsOf_int, cellsOf_bool, cellsOf_sk, List.mapM_cons, List.mapM_nil, k0, k1, k2]
  simp
theorem eqAt_an : EqAt Tryz.prog 10000 83 := run_equalIn_deep 9996 4 83 (by kernel_rfl)
theorem eq_an {A : Array Value} {x : An} (hA : IsAn A x) (ok : x.Ok) (w : World) : (Op.equalIn 10000 83 (.agg A) (.agg A)).run Tryz.prog w = .ok true w := by
  obtain ⟨la, ha⟩ := keys_an hA ok
  have hf : (Value.agg A).formed Tryz.prog 83 = true := by
    simp only [Value.formed, Tryz.underlying83, hA.size, cellsOf_an]; rfl
  obtain ⟨r, hr, hi⟩ := eqAt_an w 4 4 (.agg A) (.agg A) la la hf hf ha ha
  rw [hr, hi.2 rfl]
theorem eqlop_an {A : Array Value} {x : An} (hA : IsAn A x) (ok : x.Ok) (w : World) : (binOp .eql 83 (.agg A) (.agg A)).run Tryz.prog w = .ok (.bool true) w := by
  rw [run_eql_struct, eq_an hA ok]; rfl
theorem guard_an : Tryz.prog.eqGuardType Tryz.prog.depth 83 = false := by kernel_rfl
section
variable {ops : Array Oper} {rest : List Oper} {o : Oper} {a : Act} {w : World} {Q : Exit → Act → World → Prop}
theorem eql_an (hw : Region.wanted o (yielded ops a.tmps) = true) (x y : Operand) (t' : TypeId) (ho : o.op = .binOp .eql 83 x y t') (A : Array Value) (s : An) (hA : IsAn A s) (ok : s.Ok) (hx : a.eval x = .agg A) (hy : a.eval y = .agg A)
    (h : wpList Tryz.prog ops Q rest (a.put o.dst (.bool true)) w) : wpList Tryz.prog ops Q (o :: rest) a w :=
  wpList_step fun _ hK => by
    rw [if_pos hw]
    unfold Oper.wp execOp
    simp only [ho, hx, hy, Sem.run_bind, run_eqGuard_agg w .eql _ x y A A guard_an, Result.andThen_ok, eqlop_an hA ok, Sem.run_pure]
    exact hK _ _ h
end
theorem IsAn.eq {A B : Array Value} {x : An} (h : IsAn A x) (k : IsAn B x) : A = B := by
  have : A.toList = B.toList := by rw [show A.toList = x.cells from h, show B.toList = x.cells from k]
  exact Array.toList_inj.1 this
theorem askAn_ok {t : List Int} {l : List It} (h : AllOkI l) (hl : l.length ≤ 160) (n low high : Int) : (askAn t l n low high).Ok := by
  unfold askAn
  split
  · refine ⟨skAll_ok fun x hx => h.mem (List.mem_filter.1 hx).1, ?_⟩
    have h1 := cnt_le (l.filter (inRg low high))
    have h2 := List.length_filter_le (inRg low high) l
    constructor
    · show (-9223372036854775808 : Int) ≤ ((cnt (l.filter (inRg low high)) : Nat) : Int); omega
    · show ((cnt (l.filter (inRg low high)) : Nat) : Int) ≤ 9223372036854775807; omega
  · exact An.zero_ok

/-! ### A step of a script -/
structure Stp where
  kind : Int
  a : Int
  b : Int
  c : Int
  key : ByteArray
  v : Int
  fr : Int
  s : Sl
def Stp.arr (x : Stp) : Array Value := #[.int .i64 x.kind, .int .i64 x.a, .int .i64 x.b, .int .i64 x.c, .string x.key, .int .i32 x.v, .int .i64 x.fr, .slice x.s.p x.s.n x.s.c]
abbrev clStp : Cl Stp := ⟨fun x => [.int .i64 x.kind, .int .i64 x.a, .int .i64 x.b, .int .i64 x.c, .string x.key, .int .i32 x.v, .int .i64 x.fr, .slice x.s.p x.s.n x.s.c], 8, by decide, fun _ => rfl, fun _ v hv => by
  simp only [List.mem_cons, List.not_mem_nil, or_false] at hv
  rcases hv with rfl | rfl | rfl | rfl | rfl | rfl | rfl | rfl <;> rfl⟩
theorem Stp.clsize : clStp.size = 8 := rfl
/-- A step's numbers fit; its packet's items lie in memory, in a block that the game does not touch. -/
structure StpOk (w : World) (own : Ghost) (x : Stp) : Prop where
  kind : fitsI x.kind
  a : fitsI x.a
  b : fitsI x.b
  c : fitsI x.c
  key : x.key.size ≤ maxLen
  v0 : -2147483648 ≤ x.v
  v1 : x.v ≤ 2147483647
  fr : fitsI x.fr
  small : x.s.n ≤ 100000000
  pk : ∃ l : List It, l.length = x.s.n ∧ RowsAt clIt w x.s.p l ∧ AllOkI l ∧ (l = [] ∨ ∀ b off, x.s.p = some ⟨b, off, none⟩ → own b = .arg)

/-! ### The game -/
/-- A packet that was laid by. -/
def PkIn (w : World) (own : Ghost) (x : Pk) : Prop := fitsI x.fr ∧ ∃ l : List It, l.length = x.s.n ∧ RowsAt clIt w x.s.p l ∧ AllOkI l ∧ x.s.n ≤ 160 ∧ ∀ b off, x.s.p = some ⟨b, off, none⟩ → b < w.heap.size ∧ own b = .ldI
theorem PkIn.chg {w w' : World} {own own' : Ghost} {x : Pk} (h : PkIn w own x) {S : Tag → Prop} (f : Fr own S w w') (s : Same w own own') (h1 : ¬ S .ldI) : PkIn w' own' x := by
  obtain ⟨h0, l, h2, h3, h4, h5, h6⟩ := h
  refine ⟨h0, l, h2, h3.chg f.size fun b off e => ?_, h4, h5, fun b off e => ?_⟩
  · obtain ⟨hb, ho⟩ := h6 b off e
    exact f.block b hb (by rw [ho]; simp) (by rw [ho]; exact h1)
  · obtain ⟨hb, ho⟩ := h6 b off e
    exact ⟨Nat.lt_of_lt_of_le hb f.size, by rw [s b hb (by rw [ho]; simp)]; exact ho⟩
structure GB (w : World) (own : Ghost) (B0 bg bs bw : Nat) (vl vt vd : Sl) (L T : List Sl) (PK : List Pk) : Prop where
  game : w.heap[bg]? = some (.cells #[.pointer (some ⟨bs, 0, none⟩), .pointer (some ⟨bw, 0, none⟩), vd.val, vl.val, vt.val] 42)
  gm : own bg = .gm
  b0 : B0 ≤ w.heap.size
  bk : Bk w own B0 vl.val vt.val L T
  od : Own clPk w B0 31 vd.val PK
  td : TgV own vd.val .ld
  pk : ∀ x ∈ PK, PkIn w own x
theorem GB.chg {w w' : World} {own own' : Ghost} {B0 bg bs bw : Nat} {vl vt vd : Sl} {L T : List Sl} {PK : List Pk} (h : GB w own B0 bg bs bw vl vt vd L T PK) {S : Tag → Prop} (f : Fr own S w w') (s : Same w own own') (h1 : ¬ S .gm) (h2 : ¬ S .bL) (h3 : ¬ S .bT) (h4 : ¬ S .bI) (h5 : ¬ S .ld) (h6 : ¬ S .ldI) : GB w' own' B0 bg bs bw vl vt vd L T PK where
  game := by rw [f.block bg (lt_of_blk h.game) (by rw [h.gm]; simp) (by rw [h.gm]; exact h1)]; exact h.game
  gm := by rw [s bg (lt_of_blk h.game) (by rw [h.gm]; simp)]; exact h.gm
  b0 := Nat.le_trans h.b0 f.size
  bk := h.bk.chg f s h2 h3 h4
  od := h.od.fr f h.td (by simp) h5
  td := h.td.own s h.od (by simp)
  pk := fun x hx => (h.pk x hx).chg f s h6
theorem GB.below {w w' : World} {own : Ghost} {B0 bg bs bw : Nat} {vl vt vd : Sl} {L T : List Sl} {PK : List Pk} (h : GB w own B0 bg bs bw vl vt vd L T PK) (hb : Below w.heap.size w w') : GB w' own B0 bg bs bw vl vt vd L T PK :=
  h.chg (S := fun _ => False) (Fr.of_below hb) (Same.refl _ _) (fun h => h) (fun h => h) (fun h => h) (fun h => h) (fun h => h) (fun h => h)
/-- The whole game: both stores hold the same. -/
structure GD (SR : SRT) (w : World) (own : Ghost) (B0 bg bs bw : Nat) (t : List Int) (wid : Int) (m : Nat) (D : List Nd) (vl vt vd : Sl) (L T : List Sl) (PK : List Pk) : Prop where
  gb : GB w own B0 bg bs bw vl vt vd L T PK
  st : SR w own B0 bs t wid D
  wd : ∃ xt xn C, WRep w own B0 bw t wid D xt xn C
  di : DI D m
  ll : L.length ≤ m
  lp : PK.length ≤ m
def GX (SR : SRT) (B0 bg bs bw : Nat) (t : List Int) (wid : Int) (m : Nat) (w : World) (own : Ghost) : Prop := ∃ D vl vt vd L T PK, GD SR w own B0 bg bs bw t wid m D vl vt vd L T PK
def notArg (t : Tag) : Prop := t ≠ .arg
/-- What a step leaves. -/
def Nx (SR : SRT) (B0 bg bs bw : Nat) (t : List Int) (wid : Int) (m : Nat) (w : World) (own : Ghost) (w' : World) : Prop := ∃ own', GX SR B0 bg bs bw t wid m w' own' ∧ Same w own own' ∧ Fr own notArg w w'
theorem DI.mono {D : List Nd} {m m' : Nat} (h : DI D m) (hm : m ≤ m') : DI D m' := fun k d hk => by have := h k d hk; exact ⟨by omega, by omega, this.2.2⟩
theorem GD.chg {SR : SRT} (R : PR SR) {w w' : World} {own own' : Ghost} {B0 bg bs bw : Nat} {t : List Int} {wid : Int} {m : Nat} {D : List Nd} {vl vt vd : Sl} {L T : List Sl} {PK : List Pk} (h : GD SR w own B0 bg bs bw t wid m D vl vt vd L T PK) (f : Fr own (fun _ => False) w w') (s : Same w own own') : GD SR w' own' B0 bg bs bw t wid m D vl vt vd L T PK where
  gb := h.gb.chg f s (fun h => h) (fun h => h) (fun h => h) (fun h => h) (fun h => h) (fun h => h)
  st := R.chg h.st f s fun _ h => h
  wd := by obtain ⟨xt, xn, C, hw⟩ := h.wd; exact ⟨xt, xn, C, hw.chg f s fun _ h => h⟩
  di := h.di
  ll := h.ll
  lp := h.lp
theorem PR.below {SR : SRT} (R : PR SR) {w w' : World} {own : Ghost} {B0 bs : Nat} {t : List Int} {wid : Int} {D : List Nd} (h : SR w own B0 bs t wid D) (hb : Below w.heap.size w w') : SR w' own B0 bs t wid D :=
  R.chg h (Fr.of_below (S := fun _ => False) hb) (Same.refl _ _) fun _ h => h
theorem GD.below {SR : SRT} (R : PR SR) {w w' : World} {own : Ghost} {B0 bg bs bw : Nat} {t : List Int} {wid : Int} {m : Nat} {D : List Nd} {vl vt vd : Sl} {L T : List Sl} {PK : List Pk} (h : GD SR w own B0 bg bs bw t wid m D vl vt vd L T PK) (hb : Below w.heap.size w w') : GD SR w' own B0 bg bs bw t wid m D vl vt vd L T PK :=
  h.chg R (Fr.of_below hb) (Same.refl _ _)
theorem GD.mono {SR : SRT} {w : World} {own : Ghost} {B0 bg bs bw : Nat} {t : List Int} {wid : Int} {m m' : Nat} {D : List Nd} {vl vt vd : Sl} {L T : List Sl} {PK : List Pk} (h : GD SR w own B0 bg bs bw t wid m D vl vt vd L T PK) (hm : m ≤ m') : GD SR w own B0 bg bs bw t wid m' D vl vt vd L T PK :=
  ⟨h.gb, h.st, h.wd, h.di.mono hm, Nat.le_trans h.ll hm, Nat.le_trans h.lp hm⟩
/-- All that is not there yet is nobody's. -/
def cutO (w : World) (own : Ghost) : Ghost := fun k => if k < w.heap.size then own k else .free
theorem cut_same (w : World) (own : Ghost) : Same w own (cutO w own) := fun k hk _ => if_pos hk
theorem cut_free (w : World) (own : Ghost) {v : Value} (h : ∀ k, v.ownBlock = some k → w.heap.size ≤ k) : TgV (cutO w own) v .free := fun k hk => if_neg (by have := h k hk; omega)
theorem below_drew {w : World} : Below w.heap.size w w.drew := ⟨rfl, rfl, rfl, Nat.le_refl _, fun _ _ => rfl⟩
theorem cut_at (w : World) (own : Ghost) (k : Nat) (h : w.heap.size ≤ k) : cutO w own k = .free := if_neg (by omega)
theorem Nx.cut {SR : SRT} {B0 bg bs bw : Nat} {t : List Int} {wid : Int} {m : Nat} {w w' : World} {own : Ghost} (h : Nx SR B0 bg bs bw t wid m w (cutO w own) w') : Nx SR B0 bg bs bw t wid m w own w' := by
  obtain ⟨own', h1, h2, h3⟩ := h
  refine ⟨own', h1, fun k hk hf => ?_, h3.os, h3.tape, h3.output, h3.size, fun k hk hf hn => ?_⟩
  · have e : cutO w own k = own k := if_pos hk
    rw [h2 k hk (by rw [e]; exact hf), e]
  · have e : cutO w own k = own k := if_pos hk
    exact h3.block k hk (by rw [e]; exact hf) (by rw [e]; exact hn)
theorem GX.cut {SR : SRT} (R : PR SR) {B0 bg bs bw : Nat} {t : List Int} {wid : Int} {m : Nat} {w : World} {own : Ghost} (h : GX SR B0 bg bs bw t wid m w own) : GX SR B0 bg bs bw t wid m w (cutO w own) := by
  obtain ⟨D, vl, vt, vd, L, T, PK, g⟩ := h
  exact ⟨D, vl, vt, vd, L, T, PK, g.chg R (Fr.refl _ _ _) (cut_same w own)⟩
/-- A list that came out has been kept in the book. -/
theorem GD.kept {SR : SRT} (R : PR SR) {w w' : World} {own own' : Ghost} {B0 bg bs bw : Nat} {t : List Int} {wid : Int} {m : Nat} {D : List Nd} {vl vt vd : Sl} {L T : List Sl} {PK : List Pk} (h : GD SR w own B0 bg bs bw t wid m D vl vt vd L T PK) {vl' vt' : Value} {L' T' : List Sl}
    (hg : w'.heap[bg]? = some (.cells #[.pointer (some ⟨bs, 0, none⟩), .pointer (some ⟨bw, 0, none⟩), vd.val, vl', vt'] 42)) (hb : Bk w' own' B0 vl' vt' L' T') (hl : L'.length = L.length + 1) (s : Same w own own') (f : Fr own (fun t => t = .gm ∨ t = .bL ∨ t = .bT) w w') :
    ∃ sl st, vl' = Sl.val sl ∧ vt' = Sl.val st ∧ GD SR w' own' B0 bg bs bw t wid (m + 1) D sl st vd L' T' PK := by
  obtain ⟨p, c, e1, _⟩ := hb.ol.form
  obtain ⟨p2, c2, e2, _⟩ := hb.ot.form
  refine ⟨⟨p, _, c⟩, ⟨p2, _, c2⟩, e1, e2, ⟨?_, ?_, ?_, ?_, h.gb.od.fr f h.gb.td (by simp) (by simp), h.gb.td.own s h.gb.od (by simp), fun x hx => (h.gb.pk x hx).chg f s (by simp)⟩, R.chg h.st f s (fun i => by simp), ?_, h.di.mono (by omega), by have := h.ll; omega, by have := h.lp; omega⟩
  · rw [hg, e1, e2]; rfl
  · rw [s bg (lt_of_blk h.gb.game) (by rw [h.gb.gm]; simp)]; exact h.gb.gm
  · exact Nat.le_trans h.gb.b0 f.size
  · have e1' : (Sl.val ⟨p, L'.length, c⟩) = vl' := e1.symm
    have e2' : (Sl.val ⟨p2, T'.length, c2⟩) = vt' := e2.symm
    rw [e1', e2']; exact hb
  · obtain ⟨xt, xn, C, hw⟩ := h.wd; exact ⟨xt, xn, C, hw.chg f s (fun i => by simp)⟩
theorem DI.lev {D : List Nd} {m : Nat} (h : DI D m) (hm : m ≤ 100000000) : ∀ (k : Nat) (d : Nd), D[k]? = some d → d.lev.length ≤ 1000000000 := fun k d hd => by have := (h k d hd).1; omega
theorem DI.kev {D : List Nd} {m : Nat} (h : DI D m) (hm : m ≤ 100000000) : ∀ (k : Nat) (d : Nd), D[k]? = some d → d.kev.length ≤ 1000000000 := fun k d hd => by have := (h k d hd).2.1; omega
theorem lvAt_ok {w : World} {own : Ghost} {B0 bw : Nat} {t : List Int} {wid : Int} {D : List Nd} {vt vn : Sl} {C : List NdC} (h : WRep w own B0 bw t wid D vt vn C) {m : Nat} (hd : DI D m) (hm : m ≤ 100000000) (n : Int) : AllOkI (lvAt t D n) ∧ (lvAt t D n).length ≤ 160 := by
  have h8 := h.T.le
  unfold lvAt
  split
  · cases hx : D[n.toNat]? with
    | none => exact ⟨fun i x hx => by simp at hx, by simp⟩
    | some d =>
      have ok := h.ok _ d hx
      have hl := (List.getElem?_eq_some_iff.1 hx).1
      have hld := h.ld
      exact ⟨lvg_ok ok (by omega) (hd.lev hm _ d hx), lvg_len ok⟩
  · exact ⟨fun i x hx => by simp at hx, by simp⟩
end Go.Proofs.YtpglbakcjihohaaGreat
