/-
  A map from codes to bools that the statement makes, writes, asks.
-/
import Derived.Test.YthgcbgdafoiacaaFmtETexts
import Derived.Maps.OwnSet
import Derived.Maps.Views
namespace Go.Proofs.YthgcbgdafoiacaaFmt
open Go.RowKit Go.Extern.Stop Go.Stop Go.Extern

/-- A number that a variable may hold. -/
def Wf (k : Int) : Prop := (Lit.int .i64 k).wf = true
theorem wf_of {k : Int} (h0 : -9223372036854775808 ≤ k) (h1 : k ≤ 9223372036854775807) : Wf k := by
  simp [Wf, Lit.wf, IntKind.min, IntKind.max, IntKind.signed, IntKind.bits]
  omega
/-- The map in the block g: at most n entries; at each code this. -/
def Mp (w : World) (g n : Nat) (f : Int → Bool) : Prop :=
  ∃ D : DataW Unit, w.ownsMap Tryf.prog 22 (plainElem Tryf.prog 4) g n D ∧ ∀ k, Wf k → D.atKey (.int .i64 k) (.lit (.bool false)) = .lit (.bool (f k))
theorem Mp.heap {w : World} {g n : Nat} {f : Int → Bool} (h : Mp w g n f) : ∃ es clock, w.heap[g]? = some (.map es clock) := by
  obtain ⟨D, ⟨es, clock, hb, _⟩, _⟩ := h
  exact ⟨es, clock, hb⟩
theorem Mp.keeps {S : Nat → Prop} {w w' : World} {g n : Nat} {f : Int → Bool} (h : Mp w g n f) (hk : Keeps S w w') (hS : ¬ S g) : Mp w' g n f := by
  obtain ⟨D, ⟨es, clock, hb, h1, h2, h3⟩, hD⟩ := h
  exact ⟨D, ⟨es, clock, (hk.block g (lt_of_heap hb) hS).trans hb, h1, h2, h3⟩, hD⟩
theorem mp_new (w : World) : Mp (w.alloc (.map #[] 0)) w.heap.size 0 (fun _ => false) :=
  ⟨.map [], World.ownsMap_made w _ _ _, fun _ _ => rfl⟩
theorem mp_make (w : World) : (Instr.makeMap 28 none).run Tryf.prog w = .ok (.map (some w.heap.size)) (w.alloc (.map #[] 0)) := run_makeMap _ w
theorem keyedE : Maps.Keyed Tryf.prog 22 := Maps.int_keyed Tryf.underlying22
theorem isKey (k : Int) : WideAt.IsKeyLit (.int .i64 k) := by simp [WideAt.IsKeyLit]
theorem mp_set {w : World} {g n : Nat} {f : Int → Bool} (h : Mp w g n f) (hn : n ≤ 1000) (k : Int) (hk : Wf k) :
    ∃ w', (Instr.mapUpdate 28 (.map (some g)) (.int .i64 k) (.bool true)).run Tryf.prog w = .ok () w' ∧ Mp w' g (n + 1) (fun q => q == k || f q) ∧ Keeps (fun b => b = g) w w' := by
  obtain ⟨D, hown, hD⟩ := h
  obtain ⟨w', hrun, h1, h2⟩ := hown.update (val := .bool true) keyedE Tryf.underlying28 (by unfold maxLen; omega) (Maps.keyOf_int_mk Tryf.underlying22 hk) (plainElem_bool Tryf.underlying4 true)
  refine ⟨w', hrun, ⟨_, h1, fun q hq => ?_⟩, (Keeps.refl _ _).grown h2 fun b e => .inl (by cases e; rfl)⟩
  by_cases e : q = k
  · subst e
    rw [Maps.atKey_put_same hown.isMap (isKey q)]
    simp
  · rw [Maps.atKey_put_other (by intro h; injection h with _ h; exact e h), hD q hq]
    have : (q == k) = false := by simpa using e
    show _ = DataW.lit (Lit.bool (q == k || f q))
    rw [this, Bool.false_or]
theorem plainElem_bool_inv {H : Type} {P : Program} {e : TypeId} (he : P.underlying e = some .bool) {v : Value} {z : DataW H × List MemPlace} (h : plainElem P e v = some z) : ∃ x, v = .bool x ∧ z = (.lit (.bool x), []) := by
  cases v <;> simp [plainElem, he] at h
  exact ⟨_, rfl, h.symm⟩
theorem zeroB (w : World) : (zeroValue 4).run Tryf.prog w = .ok (.bool false) w := by kernel_rfl
theorem mp_get {w : World} {g n : Nat} {f : Int → Bool} (h : Mp w g n f) (k : Int) (hk : Wf k) : (Instr.lookup 28 (.map (some g)) (.int .i64 k) false).run Tryf.prog w = .ok (.bool (f k)) w := by
  obtain ⟨D, hown, hD⟩ := h
  obtain ⟨v, ps, hrun, hv⟩ := hown.lookup keyedE Tryf.underlying28 (zeroB w) (plainElem_bool Tryf.underlying4 false) (Maps.keyOf_int_mk Tryf.underlying22 hk)
  rw [hD k hk] at hv
  obtain ⟨x, rfl, hx⟩ := plainElem_bool_inv Tryf.underlying4 hv
  have this : Value.bool x = .bool (f k) := by
    simp only [Prod.mk.injEq, DataW.lit.injEq, Lit.bool.injEq] at hx
    rw [hx.1]
  rw [this] at hrun
  exact hrun
/-- An error hangs on its own cells alone: a map's doings leave it as it is. -/
theorem Err.cells {w w' : World} (hk : ∀ (k : Nat) (cs : Array Value) (t : TypeId) (fz : Nat × Nat), w.heap[k]? = Option.some (.cells cs t fz) → w'.heap[k]? = Option.some (.cells cs t fz)) {v : Value} {e : Er} (h : Err w v e) : Err w' v e := by
  induction h with
  | nil => exact .nil
  | pl h1 => exact .pl (hk _ _ _ _ h1)
  | fl h1 _ ih => exact .fl (hk _ _ _ _ h1) ih
  | wr h1 h2 _ ih => exact .wr (hk _ _ _ _ h1) h2 ih
  | j1 h1 h2 h3 _ ih => exact .j1 (hk _ _ _ _ h1) (hk _ _ _ _ h2) h3 ih
  | j2 h1 h2 h3 h4 _ ih => exact .j2 (hk _ _ _ _ h1) (hk _ _ _ _ h2) (hk _ _ _ _ h3) h4 ih
theorem Err.beside {w w' : World} {g n : Nat} {f : Int → Bool} {v : Value} {e : Er} (h : Err w v e) (hm : Mp w g n f) (hk : Keeps (fun b => b = g) w w') : Err w' v e := h.cells fun k cs t fz hh => by
  obtain ⟨es, clock, hg⟩ := hm.heap
  refine (hk.block k (lt_of_heap hh) fun e => ?_).trans hh
  subst e
  rw [hg] at hh
  cases hh
theorem row_beside {w w' : World} {g n m : Nat} {f : Int → Bool} {base : Nat} {v : Value} {xs : List Value} (h : w.ownsRow base 9 1 v m xs) (hm : Mp w g n f) (hk : Keeps (fun b => b = g) w w') : w'.ownsRow base 9 1 v m xs := by
  refine hk.row h fun k hv e => ?_
  subst e
  obtain ⟨es, clock, hg⟩ := hm.heap
  rcases h.2 with ⟨rfl, _⟩ | ⟨g', cap, cur, rfl, _, hh, _⟩
  · cases hv
  · cases hv
    rw [hg] at hh
    cases hh
end Go.Proofs.YthgcbgdafoiacaaFmt
