/-
  What holds of the statement FailChains' variables behind so many links.
-/
import Derived.Test.YthgcbgdafoiacaaFmtEMap
import Derived.Deep.DeepCutAuto
namespace Go.Proofs.YthgcbgdafoiacaaFmt
open Go.RowKit Go.Extern.Stop Go.Stop Go.Extern

/-- A link. -/
structure Lnk where
  kind : Int
  op : ByteArray
  code : Int
instance : Inhabited Lnk := ⟨⟨0, ⟨#[]⟩, 0⟩⟩
def lcells (x : Lnk) : List Value := [.int .i64 x.kind, .string x.op, .int .i64 x.code]
abbrev lkObj (x : Lnk) : Obj := .cells #[.int .i64 x.kind, .string x.op, .int .i64 x.code] 32
/-- The links that came in. -/
def Lks (W : World) (a : Option Addr) (l : List Lnk) : Prop :=
  (l = [] ∨ ∃ b off, a = some ⟨b, off, none⟩ ∧ b < W.heap.size ∧ ∀ i x, l[i]? = some x → ∀ j v, (lcells x)[j]? = some v → W.cell? ⟨b, off + (i * 3 + j), none⟩ = some v) ∧
  l.length ≤ 140737488355328 ∧ ∀ x ∈ l, Wf x.kind ∧ Wf x.code ∧ x.op.size ≤ 140737488355328
structure Inv (W wr : World) (j : Nat) (t : Er) (g n : Nat) (f : Int → Bool) (p : Bool) (err ops : Value) : Prop where
  err : Err wr err t
  mp : Mp wr g n f
  few : n ≤ j + 1
  same : ∀ q, (q != 0) = true → f q = t.has q
  wf : Wf t.code
  row : wr.ownsRow W.heap.size 9 1 ops t.ops.length (strs t.ops)
  plain : t.isNil = false → p = t.first.isNone
  size : t.words.size ≤ 7 + 50 * j
  deep : t.deep ≤ j + 1
  keeps : Keeps nobody W wr
  new : W.heap.size ≤ g
theorem Inv.quiet {W wr wr' : World} {j : Nat} {t : Er} {g n : Nat} {f : Int → Bool} {p : Bool} {err ops : Value} (h : Inv W wr j t g n f p err ops) (hk : Keeps nobody wr wr') : Inv W wr' j t g n f p err ops :=
  ⟨h.err.quiet hk, h.mp.keeps hk id, h.few, h.same, h.wf, hk.row h.row (fun _ _ h => h), h.plain, h.size, h.deep, h.keeps.then hk, h.new⟩
theorem Inv.later {W wr : World} {j : Nat} {t : Er} {g n : Nat} {f : Int → Bool} {p : Bool} {err ops : Value} (h : Inv W wr j t g n f p err ops) : Inv W wr (j + 1) t g n f p err ops :=
  { h with few := by have := h.few; omega, size := by have := h.size; omega, deep := by have := h.deep; omega }
/-- The first error, or none. -/
theorem inv_nil {W w1 : World} (hk : Keeps nobody W w1) : Inv W (w1.alloc (.map #[] 0)) 0 .nil w1.heap.size 0 (fun _ => false) false .nilIface (.slice none 0 0) :=
  ⟨.nil, mp_new w1, by omega, fun _ _ => rfl, by show Wf 8; exact wf_of (by omega) (by omega), World.ownsRow_nil _ _ _ _, (fun h => by cases h), Nat.zero_le _, Nat.zero_le _, hk.alloc _, hk.size⟩
/-- append([]string{op}, ops...) -/
theorem app_ops (B g0 : Nat) (wq : World) (v : Value) (L : List ByteArray) (op : ByteArray) (hg : wq.heap[g0]? = some (.cells #[.string op] 9 (0, 0))) (hB : B ≤ g0) (hrow : wq.ownsRow B 9 1 v L.length (strs L)) (hL : L.length ≤ 1000) (ty : TypeId) :
    ∃ v' w', (Builtin.append_ #[29, 29] ty #[.slice (some ⟨g0, 0, none⟩) 1 1, v]).run Tryf.prog wq = .ok v' w' ∧ w'.ownsRow B 9 1 v' (op :: L).length (strs (op :: L)) ∧ Keeps (fun k => k = g0) wq w' := by
  obtain ⟨i, hi, h⟩ := Option.map_eq_some_iff.1 infoS
  simp only [Prod.mk.injEq] at h
  obtain ⟨hz, hi1, hi2⟩ := h
  have hnew : wq.ownsRow B 9 1 (.slice (some ⟨g0, 0, none⟩) 1 1) 1 [.string op] := ⟨rfl, .inr ⟨g0, 1, #[.string op], rfl, hB, hg, Nat.le_refl _, by unfold maxLen; decide, rfl, rfl⟩⟩
  have hlt := lt_of_heap hg
  obtain ⟨v', w', hr, ho, hgr, _⟩ := run_append_rows (P := Tryf.prog) 29 ty 9 i (.string ⟨#[]⟩) 1 16 Tryf.underlying29 hi hz hi1 hi2 rfl (by decide) hnew hrow (fun u hu => by
    obtain ⟨x, _, rfl⟩ := List.mem_map.1 hu
    rfl) (by unfold maxLen; omega) (by omega) (by omega)
  refine ⟨v', w', hr, ?_, (Keeps.refl _ _).grown hgr fun k e => .inl (by cases e; rfl)⟩
  have e2 : 1 + L.length = (op :: L).length := by simp; omega
  rw [e2] at ho
  exact ho
theorem fl_has (q c : Int) (op : ByteArray) (t : Er) : (Er.fl op c t).has q = (q == c || t.has q) := rfl
theorem fl_size (op : ByteArray) (c : Int) (t : Er) (h : op.size ≤ 40) (m : Nat) (ht : t.words.size ≤ m) (hm : 7 ≤ m) : (Er.fl op c t).words.size ≤ m + 42 := by
  rw [words_fl]
  have h1 : (pre op).size ≤ op.size + 2 := by
    unfold pre
    split
    · exact Nat.zero_le _
    · simp; exact Nat.le_refl _
  have h2 : (t.tail c).size ≤ m := by
    unfold Er.tail
    split
    · have := nameOf_size c
      omega
    · exact ht
  simp
  omega
/-- The next error is a failure above the one that there is: the map may have one code more. -/
theorem Inv.fl {W wr w' : World} {j : Nat} {t : Er} {g n n' : Nat} {f f' : Int → Bool} {p : Bool} {err ops err' ops' : Value} (h : Inv W wr j t g n f p err ops) (op : ByteArray) (c : Int) (ho : op.size ≤ 40) (hc : Wf c) (hE : Err w' err' (.fl op c t)) (hm : Mp w' g n' f') (hn : n' ≤ n + 1) (hf : ∀ q, (q != 0) = true → f' q = (q == c || f q))
    (hr : w'.ownsRow W.heap.size 9 1 ops' (Er.ops (.fl op c t)).length (strs (Er.ops (.fl op c t)))) (hk : Keeps nobody W w') : Inv W w' (j + 1) (.fl op c t) g n' f' false err' ops' :=
  ⟨hE, hm, by have := h.few; omega, fun q hq => by rw [hf q hq, h.same q hq]; rfl, hc, hr, fun _ => rfl, by have := fl_size op c t ho _ h.size (by omega); omega, by have := h.deep; simp only [Er.deep]; omega, hk, h.new⟩
theorem Inv.wr {W wr w' : World} {j : Nat} {t : Er} {g n : Nat} {f : Int → Bool} {p : Bool} {err ops err' : Value} (h : Inv W wr j t g n f p err ops) (hn : t.isNil = false) (hE : Err w' err' (.wr (atS t.words) t)) (hk : Keeps nobody wr w') : Inv W w' (j + 1) (.wr (atS t.words) t) g n f p err' ops :=
  ⟨hE, h.mp.keeps hk id, by have := h.few; omega, h.same, h.wf, hk.row h.row (fun _ _ h => h), fun _ => h.plain hn, by
    have := h.size
    have e : (atS t.words).size = 3 + t.words.size := by simp [atS]; rfl
    show (atS t.words).size ≤ _
    omega, by have := h.deep; simp only [Er.deep]; omega, h.keeps.then hk, h.new⟩
theorem Inv.pl {W wr w' : World} {j : Nat} {t : Er} {g n g' : Nat} {f : Int → Bool} {p : Bool} {err ops err' : Value} (h : Inv W wr j t g n f p err ops) (hE : Err w' err' (.pl (noS t.words))) (hm : Mp w' g' 0 (fun _ => false)) (hg : W.heap.size ≤ g') (hk : Keeps nobody wr w') : Inv W w' (j + 1) (.pl (noS t.words)) g' 0 (fun _ => false) true err' (.slice none 0 0) :=
  ⟨hE, hm, Nat.zero_le _, fun _ _ => rfl, wf_of (by show _ ≤ (8 : Int); omega) (by show (8 : Int) ≤ _; omega), World.ownsRow_nil _ _ _ _, fun _ => rfl, by
    have := h.size
    have e : (noS t.words).size = 3 + t.words.size := by simp [noS]; rfl
    show (noS t.words).size ≤ _
    omega, by have := h.deep; simp only [Er.deep]; omega, h.keeps.then hk, hg⟩
theorem Inv.j1 {W wr w' : World} {j : Nat} {t : Er} {g n : Nat} {f : Int → Bool} {p : Bool} {err ops err' : Value} (h : Inv W wr j t g n f p err ops) (hn : t.isNil = false) (hE : Err w' err' (.j1 t)) (hk : Keeps nobody wr w') : Inv W w' (j + 1) (.j1 t) g n f p err' (.slice none 0 0) :=
  ⟨hE, h.mp.keeps hk id, by have := h.few; omega, h.same, h.wf, World.ownsRow_nil _ _ _ _, fun _ => h.plain hn, by have := h.size; show t.words.size ≤ _; omega, by have := h.deep; simp only [Er.deep]; omega, h.keeps.then hk, h.new⟩
theorem j2_code (t : Er) (c : Int) (p : Bool) (hp : p = t.first.isNone) : (Er.j2 t c).code = if p then c else t.code := by
  subst hp
  simp only [Er.code, Er.first]
  cases h : t.first <;> simp
theorem Inv.j2 {W wr w' : World} {j : Nat} {t : Er} {g n n' : Nat} {f f' : Int → Bool} {p : Bool} {err ops err' : Value} (h : Inv W wr j t g n f p err ops) (hn : t.isNil = false) (c : Int) (hc : Wf c) (hE : Err w' err' (.j2 t c)) (hm : Mp w' g n' f') (hn' : n' ≤ n + 1) (hf : ∀ q, (q != 0) = true → f' q = (q == c || f q)) (hk : Keeps nobody W w') :
    Inv W w' (j + 1) (.j2 t c) g n' f' false err' (.slice none 0 0) :=
  ⟨hE, hm, by have := h.few; omega, fun q hq => by rw [hf q hq, h.same q hq, Bool.or_comm]; rfl, by
    rw [j2_code t c p (h.plain hn)]
    split
    · exact hc
    · exact h.wf, World.ownsRow_nil _ _ _ _, (fun _ => by
    show false = (Er.first (.j2 t c)).isNone
    simp only [Er.first]
    cases t.first <;> rfl), by
    have := h.size
    have := nameOf_size c
    have e : (Er.words (.j2 t c)).size = t.words.size + 1 + (nameOf c).size := by simp [Er.words]; rfl
    omega, by have := h.deep; simp only [Er.deep]; omega, hk, h.new⟩
end Go.Proofs.YthgcbgdafoiacaaFmt
