/-
  Lists of numbers: one that came in, opened; one that a call owns.
-/
import Derived.Test.YtendndokgpppiaaGDoor
import Derived.Test.YtendndokgpppiaaGRow
namespace Go.Proofs.Ytendndokgpppiaa
open Go.ChangeShapes Go.WideShapes Go.ChangeAt Go.RowKit

theorem cellsInt : Try.prog.cellsOf 3 = 1 := by kernel_rfl

/-- A list of numbers that came in: where they lie. -/
def Ints (W : World) (a : Option Addr) (l : List Int) : Prop :=
  (l = [] ∨ ∃ b off, a = some ⟨b, off, none⟩ ∧ b < W.heap.size ∧ ∀ i x, l[i]? = some x → W.cell? ⟨b, off + i, none⟩ = some (.int .i64 x)) ∧ l.length ≤ 140737488355328
set_option maxRecDepth 100000 in
theorem open_Int {H : Type} {enc : TypeId × Value → H} {W : World} {a : Option Addr} {len cap : Nat} {d : DataW H} {ps : List MemPlace}
    (h : DataW.Trod enc Try.prog W 0 (fun _ => true) true 30 (.slice a len cap) d ps) (hw : ∀ n ∈ d.weights Try.prog 30, n ≤ 140737488355328) : ∃ l : List Int, len = l.length ∧ Ints W a l := by
  obtain ⟨fuel, hf⟩ := h
  rcases Deep.open_slice Try.underlying30 hf with ⟨hcs, _⟩ | ⟨a', len', cap', m, n, D, Pl, hcs, _, hl, hm, hz, hx, hel⟩
  · simp [Value.cells] at hcs
    obtain ⟨rfl, rfl, rfl⟩ := hcs
    exact ⟨[], rfl, .inl rfl, by simp⟩
  · simp [Value.cells] at hcs
    obtain ⟨rfl, rfl, rfl⟩ := hcs
    simp only [if_true] at hz
    subst hz
    simp only [Prod.mk.injEq] at hx
    have each : ∀ i, i < len → ∃ f : Int, W.cell? (a'.add i) = some (.int .i64 f) ∧ D i = .lit (.int .i64 f) := by
      intro i hi
      obtain ⟨cs', h1, h2⟩ := hel i (by omega)
      rw [cellsInt] at h1
      obtain ⟨hlen, _, hcell⟩ := World.cells?_some h1
      obtain ⟨f, e1, d1, _⟩ := DataW.trod_int Try.underlying3 h2
      subst e1
      have e := hcell 0 (by decide)
      rw [Deep.add_add, Nat.mul_one, Nat.add_zero] at e
      exact ⟨f, by rw [e]; rfl, congrArg Prod.fst d1⟩
    obtain ⟨q, hq⟩ := Deep.choose_lt each
    refine ⟨(List.range len).map q, by simp, ?_, ?_⟩
    · by_cases h0 : len = 0
      · left; subst h0; rfl
      · right
        have hc0 := (hq 0 (by omega)).1
        obtain ⟨b, off, rfl, hb⟩ := addr_of_cell hc0 (by rw [hc0]; simp)
        refine ⟨b, off, rfl, hb, fun i f hi => ?_⟩
        have hil : i < len := by
          have := (List.getElem?_eq_some_iff.1 hi).1
          simpa using this
        have hf2 : q i = f := by simpa [hil] using hi
        have e := (hq i hil).1
        rw [Addr.add_mid, hf2] at e
        exact e
    · have hb : Try.prog.bytesOf 3 = 8 := by kernel_rfl
      have h2 := hw ((len + (m - len)) * 8) (by rw [hx.1]; simp [DataW.weights, Try.underlying30, hb])
      simp
      omega

/-- A number as a record of one cell. -/
def numR : Recs Int := ⟨fun x => [.int .i64 x], 1, by decide, fun _ => rfl, fun p v hv => by
  simp at hv
  subst hv
  rfl⟩
theorem infoInt : (Try.prog.info? 3).map (fun i => (i.zero, i.size, i.bytes)) = some (some (.int .i64 0), 1, 8) := by kernel_rfl
theorem Ints.lies {W : World} {a : Option Addr} {l : List Int} (h : Ints W a l) : numR.Lies W a l nobody := by
  rcases h.1 with rfl | ⟨b, off, e, hb, hc⟩
  · exact .inl rfl
  · refine .inr ⟨b, off, e, hb, id, fun i x hi j v hj => ?_⟩
    have hj' : ([.int .i64 x] : List Value)[j]? = some v := hj
    match j, hj' with
    | 0, hj' =>
      simp only [List.getElem?_cons_zero, Option.some.injEq] at hj'
      subst hj'
      have := hc i x hi
      show W.cell? ⟨b, off + (i * 1 + 0), none⟩ = _
      rwa [Nat.mul_one, Nat.add_zero]
    | j + 1, hj' => simp at hj'
/-- A list of numbers that a call owns, as a thing. -/
abbrev numT (x : Option Addr) (n c : Nat) (l : List Int) : Thing := numR.rowT 3 (.slice x n c) l
theorem num_cell {w : World} {B rb n c : Nat} {l : List Int} (h : numR.Own 3 B w (.slice (some ⟨rb, 0, none⟩) n c) l) (i : Nat) (y : Int) (hi : l[i]? = some y) : w.cell? ⟨rb, i, none⟩ = some (.int .i64 y) := by
  have := Recs.own_cell h i 0 y (.int .i64 y) hi rfl
  have e : i * numR.width + 0 = i := by show i * 1 + 0 = i; omega
  rwa [e] at this
/-- What a call of its own has made, beside what there was. -/
theorem Hold.join {W w w' : World} {ts : List Thing} {t : Thing} (h : Hold W w ts) (H : Hold w w' [t]) : Hold W w' (t :: ts) :=
  h.add (keeps_of_below H.below) (H.ok t (List.mem_singleton.2 rfl)) (H.inv t (List.mem_singleton.2 rfl)) fun k e => H.new t (List.mem_singleton.2 rfl) k e
/-- append(nil, l...): a list of its own. -/
theorem num_copied {w : World} {a : Option Addr} {l : List Int} (hl : numR.Lies w a l nobody) (c : Nat) (h : l.length ≤ 100000) :
    ∃ x c' w', (Builtin.append_ #[30, 30] 30 #[.slice none 0 0, .slice a l.length c]).run Try.prog w = .ok (.slice x l.length c') w' ∧ Hid (Hold w w' [numT x l.length c' l]) := by
  obtain ⟨x, n, c', w', r, H⟩ := Recs.app (ts := []) (us := []) 30 30 3 _ 8 Try.underlying30 infoInt rfl (Recs.newrow (R := numR) (hold_nil (Below.refl _ w)) 3) hl c (by simp; omega) (by decide)
  obtain ⟨hn, H⟩ := H.out
  rw [List.nil_append] at hn H
  subst hn
  exact ⟨x, c', w', r, H⟩
/-- append of what lies there to a list of its own. -/
theorem num_behind {W w : World} {x : Option Addr} {n c0 : Nat} {l m : List Int} {a : Option Addr} (H : Hold W w [numT x n c0 l]) (hm : numR.Lies w a m nobody) (k c : Nat) (hk : m.length = k) (h : l.length + k ≤ 100000) :
    ∃ x' c' w', (Builtin.append_ #[30, 30] 30 #[.slice x n c0, .slice a k c]).run Try.prog w = .ok (.slice x' (l.length + k) c') w' ∧ Hid (Hold W w' [numT x' (l.length + k) c' (l ++ m)]) := by
  subst hk
  obtain ⟨x', n', c', w', r, H'⟩ := Recs.app (ts := []) (us := []) 30 30 3 _ 8 Try.underlying30 infoInt rfl H hm c (by omega) (by decide)
  obtain ⟨hn, H'⟩ := H'.out
  rw [List.length_append] at hn
  subst hn
  exact ⟨x', c', w', r, H'⟩
theorem num_lit {w : World} (l : List Int) (cs : Array Value) (h : cs.toList = numR.cells l) : numR.Lies (w.alloc (.cells cs 3)) (some ⟨w.heap.size, 0, none⟩) l nobody := Recs.lit_lies cs 3 h fun _ e => e.elim
end Go.Proofs.Ytendndokgpppiaa
