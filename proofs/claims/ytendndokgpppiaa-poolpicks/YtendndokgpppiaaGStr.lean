/-
  Strings as lists of numbers; slices of bytes that a call owns.
-/
import Derived.Test.YtendndokgpppiaaGApp
namespace Go.Proofs.Ytendndokgpppiaa
open Go.RowKit

/-- A string's bytes as numbers. -/
def nums (b : ByteArray) : List Nat := b.data.toList.map UInt8.toNat
theorem nums_length (b : ByteArray) : (nums b).length = b.size := by simp [nums]
theorem nums_byte (b : ByteArray) : ∀ x ∈ nums b, x < 256 := by
  intro x hx
  obtain ⟨u, _, rfl⟩ := List.mem_map.1 hx
  exact UInt8.toNat_lt u
theorem nums_drop (b : ByteArray) (j : Nat) (hj : j < b.size) : (nums b).drop j = (b[j]'hj).toNat :: (nums b).drop (j + 1) := by
  have h : j < (nums b).length := by simpa [nums] using hj
  rw [List.drop_eq_getElem_cons h]
  simp [nums]
  rfl
theorem nums_take_snoc (b : ByteArray) (j : Nat) (hj : j < b.size) : (nums b).take (j + 1) = (nums b).take j ++ [(b[j]'hj).toNat] := by
  have h : j < (nums b).length := by simpa [nums] using hj
  rw [List.take_add_one, List.getElem?_eq_getElem h]
  simp [nums]
  rfl
theorem nums_all (b : ByteArray) (j : Nat) (hj : ¬ j < b.size) : (nums b).take j = nums b := List.take_of_length_le (by rw [nums_length]; omega)
theorem nums_none (b : ByteArray) (j : Nat) (hj : ¬ j < b.size) : (nums b).drop j = [] := List.drop_eq_nil_of_le (by rw [nums_length]; omega)
theorem nums_append (a b : ByteArray) : nums (a ++ b) = nums a ++ nums b := by
  simp [nums]
/-- A list of numbers as a string. -/
def str (l : List Nat) : ByteArray := strOfNums (l.map Int.ofNat)
def cellsOf (l : List Nat) : List Value := l.map fun (x : Nat) => Value.int .u8 (x : Int)
theorem str_data (l : List Nat) : (str l).data = (l.map UInt8.ofNat).toArray := by
  simp [str, strOfNums, Function.comp_def]
theorem str_size (l : List Nat) : (str l).size = l.length := by rw [str, strOfNums_size]; simp
theorem nums_str (l : List Nat) (h : ∀ x ∈ l, x < 256) : nums (str l) = l := by
  rw [nums, str_data]
  simp only [List.map_map]
  have : ∀ l : List Nat, (∀ x ∈ l, x < 256) → l.map (UInt8.toNat ∘ UInt8.ofNat) = l := by
    intro l
    induction l with
    | nil => intro _; rfl
    | cons x l ih =>
      intro h
      have hx := h x (by simp)
      rw [List.map_cons, ih fun y hy => h y (by simp [hy])]
      simp [Nat.mod_eq_of_lt hx]
  exact this l h
theorem str_nums (b : ByteArray) : str (nums b) = b := by
  have : (str (nums b)).data = b.data := by
    rw [str_data, nums]
    simp [Function.comp_def]
  cases b
  cases h : str (nums _) with
  | mk d => rw [h] at this; simp at this; rw [this]
theorem str_inj (l m : List Nat) (hl : ∀ x ∈ l, x < 256) (hm : ∀ x ∈ m, x < 256) (h : str l = str m) : l = m := by
  rw [← nums_str l hl, ← nums_str m hm, h]
theorem isEmpty_of_size (b : ByteArray) (h : 0 < b.size) : b.toList.isEmpty = false := by
  rw [ByteArray.toList_eq]
  cases hd : b.data.toList with
  | nil =>
    have : b.data.size = 0 := by rw [← Array.length_toList, hd]; rfl
    have : b.size = 0 := this
    omega
  | cons _ _ => rfl
theorem eq_empty_of_size (b : ByteArray) (h : ¬ 0 < b.size) : b = ⟨#[]⟩ := by
  have h0 : b.data.size = 0 := by have : b.size = b.data.size := rfl; omega
  cases b with
  | mk d => simp at h0; simp [h0]
theorem info5 : (Try.prog.info? 5).map (fun i => (i.zero, i.size, i.bytes)) = some (some (.int .u8 0), 1, 1) := by kernel_rfl
theorem ownsRow_one (w : World) (base : Nat) (hb : base ≤ w.heap.size) (x : Nat) : (w.alloc (.cells #[.int .u8 (x : Int)] 5)).ownsRow base 5 1 (.slice (some ⟨w.heap.size, 0, none⟩) 1 1) [x].length (cellsOf [x]) :=
  ⟨by simp [cellsOf], .inr ⟨w.heap.size, 1, #[.int .u8 (x : Int)], rfl, hb, heap_alloc_new w _, Nat.le_refl _, by unfold maxLen; decide, rfl, by simp [cellsOf]⟩⟩
theorem conv_own (w : World) (base : Nat) (v : Value) (n : Nat) (l : List Nat) (xs : List Value) (h : w.ownsRow base 5 1 v n xs) (hx : xs = cellsOf l) :
    (convert 99 9 v).run Try.prog w = .ok (.string (str l)) w := by
  subst hx
  have hn : l.length = n := by have := h.1; simpa [cellsOf] using this
  rcases h.2 with ⟨rfl, h0⟩ | ⟨g, cap, cur, rfl, _, _, _⟩
  · have hl : l = [] := List.length_eq_zero_iff.1 (by omega)
    subst hl
    exact run_convert_bytes_nil w 99 5 Try.underlying99 Try.underlying5 0 0 9 Try.underlying9
  · have hc := h.cells (g := g) rfl
    refine run_convert_bytes_arg w 99 5 Try.underlying99 Try.underlying5 g 0 n cap (l.map Int.ofNat) (by simpa using hn) (fun i hi => ?_) 9 Try.underlying9
    have hil : i < l.length := by omega
    have := hc i (.int .u8 (l[i] : Int)) (by simp [cellsOf, List.getElem?_eq_getElem hil])
    have hplain : (⟨g, 0, none⟩ : Addr).add i = ⟨g, 0 + i, none⟩ := by unfold Addr.add; split <;> simp_all
    rw [hplain] at this
    rw [this]
    simp [List.getD, List.getElem?_map, List.getElem?_eq_getElem hil]
/-- append to a slice that the call owns, as one step of a region that draws its order. -/
theorem step_append_own {P : Program} {w : World} {ops : Array Oper} {o : Oper} {a : Act} {K : Act → World → Prop} {Q : Exit → Act → World → Prop} {E : Prop} (hgd : o.guard = none) (s x : Operand) (t : TypeId)
    (ho : o.op = .call { callee := .builtin .append, args := #[s, x], argTypes := #[t, t] })
    (base : Nat) (e : TypeId) (i : TypeInfo) (z : Value) (size bytes : Nat) (ht : P.underlying t = some (.slice e)) (hi : P.info? e = some i) (hz : i.zero = some z)
    (hsize : i.size = size) (hby : i.bytes = bytes) (hzs : z.cells.size = size) (hsz : 0 < size)
    (v : Value) (n : Nat) (xs : List Value) (hs : a.eval s = v) (hown : w.ownsRow base e size v n xs)
    (ad : Addr) (m c : Nat) (news : List Value) (hx : a.eval x = .slice (some ad) m c) (hl : news.length = m * size) (hnews : ∀ j u, news[j]? = some u → w.cell? (ad.add j) = some u) (h1 : ∀ u ∈ news, u.oneCell' = true)
    (h63 : n + m ≤ maxLen) (hbytes : (n + m) * bytes ≤ 140737488355328) (hbase : base ≤ w.heap.size)
    (h : ∀ v' w', w'.ownsRow base e size v' (n + m) (xs ++ news) → w.grownBy w' v.ownBlock → K (a.put o.dst v') w') :
    if Region.wanted o (yielded ops a.tmps) = true then Oper.wp P o a w K Q else E := by
  have hw : Region.wanted o (yielded ops a.tmps) = true := by simp [Region.wanted, hgd]
  rw [if_pos hw]
  exact wp_append_own w s x t ho base e i z size bytes ht hi hz hsize hby hzs hsz v n xs hs hown ad m c news hx hl hnews h1 h63 hbytes hbase fun v' w' h2 h3 _ => h v' w' h2 h3
theorem news_one (w : World) (x : Int) : ∀ j u, [Value.int .u8 x][j]? = some u → (w.alloc (.cells #[.int .u8 x] 5)).cell? ((⟨w.heap.size, 0, none⟩ : Addr).add j) = some u := by
  intro j u hj
  match j, hj with
  | 0, hj => simp at hj; subst hj; simp [Addr.add]
theorem one_cell (x : Int) : ∀ u ∈ [Value.int .u8 x], u.oneCell' = true := by intro u hu; simp at hu; subst hu; rfl
/-- The walk's end: true, and no old memory is turned. -/
abbrev Fine (w : World) (e : Ending) (w' : World) : Prop := e = .returned (.bool true) ∧ Below w.heap.size w w'
theorem index_at (b : ByteArray) (j : Nat) (h : j < b.size) (w : World) : (Instr.index 9 (.string b) (.int .i64 (j : Int))).run Try.prog w = .ok (.int .u8 ((b[j]'h).toNat : Int)) w := by
  rw [run_index_string w _ _ _ _ Try.underlying9, dif_pos (by omega)]
  simp
theorem slice_both (b : ByteArray) (i j : Nat) (h1 : i ≤ j) (h2 : j ≤ b.size) (w : World) : (Instr.slice 9 (.string b) (some (.int .i64 (i : Int))) (some (.int .i64 (j : Int))) none).run Try.prog w = .ok (.string (b.extract i j)) w := by
  rw [run_slice_string w 9 b .i64 .i64 (i : Int) (j : Int) Try.underlying9 (by omega) (by omega) (by omega)]
  simp
theorem slice_from (b : ByteArray) (i : Nat) (h1 : i ≤ b.size) (w : World) : (Instr.slice 9 (.string b) (some (.int .i64 (i : Int))) none none).run Try.prog w = .ok (.string (b.extract i b.size)) w := by
  rw [run_slice_string_l w 9 b Try.underlying9 .i64 (i : Int) (by omega) (by omega)]
  simp
end Go.Proofs.Ytendndokgpppiaa
