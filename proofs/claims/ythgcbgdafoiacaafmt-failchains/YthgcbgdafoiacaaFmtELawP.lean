/-
  The law FailChains: the facts of its walk.
-/
import Derived.Test.YthgcbgdafoiacaaFmtELawS
namespace Go.Proofs.YthgcbgdafoiacaaFmt
open Go.RowKit Go.Extern.Stop Go.Stop Go.Extern

/-- What the loop's variables hold. -/
def At2 (W wr : World) (j : Nat) (err has first ops words plain : Value) : Prop :=
  ∃ t g n f p, has = .map (some g) ∧ first = .int .i64 (Er.code t) ∧ words = .string t.words ∧ plain = .bool p ∧ Inv W wr j t g n f p err ops
theorem at2_nil {W w1 : World} (hk : Keeps nobody W w1) : At2 W (w1.alloc (.map #[] 0)) 0 .nilIface (.map (some w1.heap.size)) (.int .i64 8) (.slice none 0 0) (.string ⟨#[]⟩) (.bool false) :=
  ⟨.nil, _, _, _, _, rfl, rfl, rfl, rfl, inv_nil hk⟩
theorem at2_new {W w1 w3 w4 : World} {c : Int} {b g : Nat} (hk : Keeps nobody W w1) (hc : Wf c) (hb : Err w1 (flV b) (.fl ⟨#[]⟩ c .nil)) (hg : g = w1.heap.size) (hm : Mp w3 g 1 (fun q => q == c || false)) (hk3 : Keeps (fun b => b = g) (w1.alloc (.map #[] 0)) w3) (hk4 : Keeps nobody w3 w4) :
    At2 W w4 0 (flV b) (.map (some g)) (.int .i64 c) (.slice none 0 0) (.string (nameOf c)) (.bool false) := by
  have hge := hk.size
  have h1 : Err (w1.alloc (.map #[] 0)) (flV b) (.fl ⟨#[]⟩ c .nil) := hb.quiet (keeps_alloc _ _)
  have hm1 : Mp (w1.alloc (.map #[] 0)) g 0 (fun _ => false) := by rw [hg]; exact mp_new w1
  have hkk : Keeps nobody W w3 := (hk.alloc _).trans hk3 fun n hn e => by omega
  refine ⟨.fl ⟨#[]⟩ c .nil, g, 1, _, false, rfl, rfl, by rw [words_plain], rfl, (h1.beside hm1 hk3).quiet hk4, hm.keeps hk4 id, Nat.le_refl _, fun q _ => by simp [Er.has], hc, ?_, fun _ => rfl, ?_, Nat.le_refl _, hkk.then hk4, by omega⟩
  · have e : Er.ops (.fl ⟨#[]⟩ c .nil) = [] := by simp [Er.ops]
    rw [e]
    exact World.ownsRow_nil _ _ _ _
  · rw [words_plain]
    have := nameOf_size c
    omega
theorem tmod_five (k : Int) : -5 < k.tmod 5 ∧ k.tmod 5 < 5 := by
  rcases Int.le_total 0 k with h | h
  · rw [Int.tmod_eq_emod_of_nonneg h]; omega
  · obtain ⟨m, rfl⟩ : ∃ m : Int, k = -m := ⟨-k, by omega⟩
    rw [Int.neg_tmod, Int.tmod_eq_emod_of_nonneg (by omega)]; omega
theorem mod_five (k : Int) : (k.tmod 5 + 5).tmod 5 = 0 ∨ (k.tmod 5 + 5).tmod 5 = 1 ∨ (k.tmod 5 + 5).tmod 5 = 2 ∨ (k.tmod 5 + 5).tmod 5 = 3 ∨ (k.tmod 5 + 5).tmod 5 = 4 := by
  have h := tmod_five k
  rw [Int.tmod_eq_emod_of_nonneg (by omega)]
  omega
theorem heap2 (w : World) (o1 : Obj) (v : Value) (vs : List Value) {t : TypeId} : ((w.alloc o1).alloc (.cells (v :: vs).toArray t)).cell? ⟨w.heap.size + 1, 0, none⟩ = some v := by
  have := heap_alloc_new (w.alloc o1) (.cells (v :: vs).toArray t)
  have h : ((w.alloc o1).alloc (.cells (v :: vs).toArray t)).heap[w.heap.size + 1]? = some (.cells (v :: vs).toArray t (0, 0)) := by simpa using this
  exact cells_of h 0 _ rfl
theorem heap2b (w : World) (o1 : Obj) (v u : Value) (vs : List Value) {t : TypeId} : ((w.alloc o1).alloc (.cells (v :: u :: vs).toArray t)).cell? ⟨w.heap.size + 1, 1, none⟩ = some u := by
  have := heap_alloc_new (w.alloc o1) (.cells (v :: u :: vs).toArray t)
  have h : ((w.alloc o1).alloc (.cells (v :: u :: vs).toArray t)).heap[w.heap.size + 1]? = some (.cells (v :: u :: vs).toArray t (0, 0)) := by simpa using this
  exact cells_of h 1 _ rfl
theorem fl_words (op : ByteArray) (c : Int) (t : Er) (h : op.toList.isEmpty = false) : (Er.fl op c t).words = op ++ ⟨#[58, 32]⟩ ++ t.tail c := by
  rw [words_fl, pre, h]
  rfl
theorem fl_words_e (op : ByteArray) (c : Int) (t : Er) (h : op.toList.isEmpty = true) : (Er.fl op c t).words = t.tail c := by
  rw [words_fl, pre, h]
  apply ByteArray.ext
  simp
theorem j2_words (t : Er) (c : Int) : (Er.j2 t c).words = t.words ++ (⟨#[10]⟩ ++ nameOf c) := by
  show t.words ++ ⟨#[10]⟩ ++ nameOf c = _
  rw [ByteArray.append_assoc]
theorem or_zero (q : Int) (hq : (q != 0) = true) (b : Bool) : b = (q == 0 || b) := by
  have : (q == 0) = false := by simpa [bne] using hq
  rw [this, Bool.false_or]
/-- New's answer. -/
def newE (c : Int) : Er := if c = 0 then .nil else .fl ⟨#[]⟩ c .nil
/-- How an error is held against nil. -/
structure NilTest (v : Value) (z : Bool) : Prop where
  guardN : ∀ k w, (eqGuard .neq 26 (.tmp k) (.const .nilIface) v .nilIface).run Tryf.prog w = .ok () w
  guardE : ∀ k w, (eqGuard .eql 26 (.tmp k) (.const .nilIface) v .nilIface).run Tryf.prog w = .ok () w
  neq : ∀ w, (binOp .neq 26 v .nilIface).run Tryf.prog w = .ok (.bool (!z)) w
  eql : ∀ w, (binOp .eql 26 v .nilIface).run Tryf.prog w = .ok (.bool z) w
theorem nilTest_nil : NilTest .nilIface true := ⟨fun k w => by kernel_rfl, fun k w => by kernel_rfl, fun w => by kernel_rfl, fun w => by kernel_rfl⟩
theorem nilTest_some (t : Nat) (x : Value) : NilTest (.iface t x) false := ⟨fun k w => by kernel_rfl, fun k w => by kernel_rfl, fun w => by kernel_rfl, fun w => by kernel_rfl⟩
theorem Err.test {w : World} {v : Value} {t : Er} (h : Err w v t) : NilTest v t.isNil := by
  cases hn : t.isNil with
  | true =>
    cases h with
    | nil => exact nilTest_nil
    | _ => simp [Er.isNil] at hn
  | false =>
    obtain ⟨T, x, rfl⟩ := h.some hn
    exact nilTest_some T x
theorem new_any (c : Int) (w : World) : Calls Tryf.prog 5 #[.int .i64 c] w fun e w' => ∃ v, e = .returned v ∧ Err w' v (newE c) ∧ Keeps nobody w w' := by
  by_cases h : c = 0
  · subst h
    exact (new_ok w).mono (by rintro e w' ⟨rfl, rfl⟩; exact ⟨_, rfl, .nil, Keeps.refl _ _⟩)
  · refine (new_some c w (by simpa using h)).mono ?_
    rintro e w' ⟨rfl, rfl⟩
    exact ⟨_, rfl, by rw [newE, if_neg h]; exact .fl (heap_alloc_new w _) .nil, keeps_alloc _ _⟩
end Go.Proofs.YthgcbgdafoiacaaFmt
