/-
  Lists of Bools that came in, opened.
-/
import Derived.Test.YtendndokgpppiaaGDoor
namespace Go.Proofs.Ytendndokgpppiaa
open Go.ChangeShapes Go.WideShapes Go.ChangeAt Go.RowKit

theorem cellsBool : Try.prog.cellsOf 4 = 1 := by kernel_rfl
/-- A list of Bools that came in: where they lie. -/
def Bools (W : World) (a : Option Addr) (l : List Bool) : Prop :=
  (l = [] ∨ ∃ b off, a = some ⟨b, off, none⟩ ∧ b < W.heap.size ∧ ∀ i x, l[i]? = some x → W.cell? ⟨b, off + i, none⟩ = some (.bool x)) ∧ l.length ≤ 140737488355328
set_option maxRecDepth 100000 in
theorem open_Bool {H : Type} {enc : TypeId × Value → H} {W : World} {a : Option Addr} {len cap : Nat} {d : DataW H} {ps : List MemPlace}
    (h : DataW.Trod enc Try.prog W 0 (fun _ => true) true 22 (.slice a len cap) d ps) (hw : ∀ n ∈ d.weights Try.prog 22, n ≤ 140737488355328) : ∃ l : List Bool, len = l.length ∧ Bools W a l := by
  obtain ⟨fuel, hf⟩ := h
  rcases Deep.open_slice Try.underlying22 hf with ⟨hcs, _⟩ | ⟨a', len', cap', m, n, D, Pl, hcs, _, hl, hm, hz, hx, hel⟩
  · simp [Value.cells] at hcs
    obtain ⟨rfl, rfl, rfl⟩ := hcs
    exact ⟨[], rfl, .inl rfl, by simp⟩
  · simp [Value.cells] at hcs
    obtain ⟨rfl, rfl, rfl⟩ := hcs
    simp only [if_true] at hz
    subst hz
    simp only [Prod.mk.injEq] at hx
    have each : ∀ i, i < len → ∃ f : Bool, W.cell? (a'.add i) = some (.bool f) ∧ D i = .lit (.bool f) := by
      intro i hi
      obtain ⟨cs', h1, h2⟩ := hel i (by omega)
      rw [cellsBool] at h1
      obtain ⟨hlen, _, hcell⟩ := World.cells?_some h1
      obtain ⟨f, e1, d1⟩ := DataW.trod_bool Try.underlying4 h2
      subst e1
      have e := hcell 0 (by decide)
      rw [Deep.add_add, Nat.mul_one, Nat.add_zero] at e
      exact ⟨f, by rw [e]; rfl, congrArg Prod.fst d1⟩
    obtain ⟨q, hq⟩ := Deep.choose_lt each
    refine ⟨(List.range len).map q, by simp, ?_, ?_⟩
    · by_cases h0 : len = 0
      · left; subst h0; rfl
      · right
        have hc0 := (hq 0 (by omega)).1
        obtain ⟨b, off, rfl, hb⟩ := addr_of_cell hc0 (by rw [hc0]; simp)
        refine ⟨b, off, rfl, hb, fun i f hi => ?_⟩
        have hil : i < len := by
          have := (List.getElem?_eq_some_iff.1 hi).1
          simpa using this
        have hf2 : q i = f := by simpa [hil] using hi
        have e := (hq i hil).1
        rw [Addr.add_mid, hf2] at e
        exact e
    · have hb : Try.prog.bytesOf 4 = 1 := by kernel_rfl
      have h2 := hw ((len + (m - len)) * 1) (by rw [hx.1]; simp [DataW.weights, Try.underlying22, hb])
      simp
      omega
theorem Bools.at {w W : World} {a : Option Addr} {l : List Bool} (h : Bools w a l) (hk : Keeps nobody w W) (j : Nat) (hj : j < l.length) : ∃ b off, a = some ⟨b, off, none⟩ ∧ b < W.heap.size ∧ W.cell? ⟨b, off + j, none⟩ = some (.bool (l[j]'hj)) := by
  rcases h.1 with rfl | ⟨b, off, e, hb, hc⟩
  · simp at hj
  · exact ⟨b, off, e, Nat.lt_of_lt_of_le hb hk.size, (hk.cell (p := ⟨b, off + j, none⟩) hb id).trans (hc j _ (List.getElem?_eq_getElem hj))⟩
end Go.Proofs.Ytendndokgpppiaa
