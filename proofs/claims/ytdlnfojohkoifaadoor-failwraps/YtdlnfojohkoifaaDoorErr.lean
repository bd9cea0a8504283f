/-
  (*fail.Failure).Error over a chain of failures: each op that is not empty and a colon, then the last one's code's name.
-/
import Derived.Test.YtdlnfojohkoifaaDoorHas
import Derived.Test.YtdlnfojohkoifaaDoorLay
namespace Go.Proofs.YtdlnfojohkoifaaDoor
open Go.RowKit Go.Extern.Stop Go.Stop Go.Extern

theorem builder_kept {p : Value} {B b : Nat} {bs : List Value} {w w' : World} (h : Lib.BuilderAt 54 5 B b p bs w) (hk : Below w.heap.size w w') : Lib.BuilderAt 54 5 B b p bs w' := by
  have hlt := h.lt
  obtain ⟨hB, v, hb, hown, hne⟩ := h
  refine ⟨hB, v, (hk.block b hlt).trans hb, hown.kept (row := none) ⟨hk.os, hk.tape, hk.output, hk.size, fun k hk' _ => hk.block k hk'⟩ ?_, hne⟩
  cases hq : v.ownBlock
  · exact .inl rfl
  · exact .inr (by simp)
theorem isBuilder_kept {B b : Nat} {bs : List Value} {w w' : World} (h : Lib.IsBuilder 54 5 B b bs w) (hk : Below w.heap.size w w') : Lib.IsBuilder 54 5 B b bs w' := by
  rcases h with h | h
  · exact .inl (builder_kept h hk)
  · exact .inr (builder_kept h hk)

set_option maxHeartbeats 1000000 in
theorem ending_plain (b : Nat) (op : ByteArray) (c : Int) (w : World) (hE : Env w) (hb : w.heap[b]? = some (.cells #[.string op, .int .i64 c, .nilIface] 28 (0, 0))) :
    Calls Tryd.prog 26 #[.pointer (some ⟨b, 0, none⟩)] w fun e w' => e = .returned (.string (nameOf c)) ∧ Below w.heap.size w w' := by
  have hbl := lt_of_heap hb
  have hb2 : ∀ o1 o2, ((w.alloc o1).alloc o2).heap[b]? = some (.cells #[.string op, .int .i64 c, .nilIface] 28 (0, 0)) := fun o1 o2 => by
    rw [Below.heap_alloc _ _ b (by simp; omega), Below.heap_alloc _ _ b hbl]; exact hb
  have c1 : ∀ o1 o2, ((w.alloc o1).alloc o2).cell? ⟨b, 1, none⟩ = some (.int .i64 c) := fun o1 o2 => by simp [World.cell?, hb2]
  have c2 : ∀ o1 o2, ((w.alloc o1).alloc o2).cell? ⟨b, 2, none⟩ = some .nilIface := fun o1 o2 => by simp [World.cell?, hb2]
  clear hb2
  have hN : ∀ o1 o2, Calls Tryd.prog 11 #[.int .i64 c] ((w.alloc o1).alloc o2) fun e w' => e = .returned (.string (nameOf c)) ∧ w' = (w.alloc o1).alloc o2 := fun o1 o2 => name_any c _ (hE.grown (((Below.refl _ _).alloc (Nat.le_refl _) _).alloc (by simp) _))
  go_enter_defers Tryd.func26, Tryd.ntmps26
  go_wp2_with fail
  refine Calls.mono (hN _ _) ?_
  rintro e w1 ⟨rfl, rfl⟩
  clear hN
  go_wp2
  simp [bodyPostD, Leaves, results, Tryd.results26, go_sem]
  exact ((Below.refl _ _).alloc (Nat.le_refl _) _).alloc (by simp) _

def pre (op : ByteArray) : List UInt8 := if op.toList.isEmpty then [] else op.data.toList ++ [58, 32]
/-- What Error tells of a chain. -/
def words : List (ByteArray × Int) → List UInt8
  | [] => []
  | [(op, c)] => pre op ++ (nameOf c).data.toList
  | (op, _) :: y :: l => pre op ++ words (y :: l)

theorem assertNil (w : World) : (Instr.typeAssert .nilIface 26 24 true).run Tryd.prog w = .ok (.tuple #[.pointer none, .bool false]) w := by kernel_rfl

theorem error_nil (w : World) : Calls Tryd.prog 13 #[.pointer none] w fun e w' => e = .returned (.string ⟨#[]⟩) ∧ w' = w := by
  go_enter Tryd.func13, Tryd.ntmps13
  go_wp2_with fail
  go_ret
  exact ⟨rfl, rfl⟩

/-- What holds of the builder and of where the loop stands. -/
def At (w : World) (l : List (ByteArray × Int)) (l' : List (ByteArray × Int)) (acc : List UInt8) (last next : Value) : Prop :=
  (∃ b', next = .pointer (some ⟨b', 0, none⟩) ∧ l' ≠ [] ∧ Chain w (.iface 24 (.pointer (some ⟨b', 0, none⟩))) l' ∧ acc ++ words l' = words l) ∨
  (next = .pointer none ∧ l' = [] ∧ ∃ bl op c, last = .pointer (some ⟨bl, 0, none⟩) ∧ w.heap[bl]? = some (.cells #[.string op, .int .i64 c, .nilIface] 28 (0, 0)) ∧ acc ++ (nameOf c).data.toList = words l)

set_option maxRecDepth 100000 in
set_option maxHeartbeats 2000000 in
theorem error_chain (b : Nat) (l : List (ByteArray × Int)) (w : World) (hE : Env w) (h : Chain w (.iface 24 (.pointer (some ⟨b, 0, none⟩))) l) (hlen : (words l).length ≤ 140737488355328) :
    Calls Tryd.prog 13 #[.pointer (some ⟨b, 0, none⟩)] w fun e w' => e = .returned (.string ⟨(words l).toArray⟩) ∧ Below w.heap.size w w' := by
  have hA := assert24
  have hN := assertNil
  have hne : l ≠ [] := by cases h; simp
  go_enter Tryd.func13, Tryd.ntmps13
  go_wp2_with fail
  go_loopg [4, 5] l.length (fun k last next wr => ∃ l' acc, k = l'.length ∧ Lib.IsBuilder 54 5 w.heap.size w.heap.size (Lib.byteCells acc) wr ∧ Below w.heap.size w wr ∧ At w l l' acc last next)
  case atStart => exact ⟨l, [], rfl, Lib.fresh_isBuilder 54 5 w, (Below.refl _ _).alloc (Nat.le_refl _) _, .inl ⟨b, rfl, hne, h, rfl⟩⟩
  case round =>
    obtain ⟨l', acc, hg, hI, hB, hAt⟩ := hrel
    rcases hAt with ⟨b', rfl, hne', hch, hw⟩ | ⟨rfl, rfl, bl, op, c, rfl, hbl, hw⟩
    · cases hch with
      | @cons _ op c v' l2 hb htail =>
      have hbl := lt_of_heap hb
      have hbw : wr.heap[b']? = some (.cells #[.string op, .int .i64 c, v'] 28 (0, 0)) := (hB.block b' hbl).trans hb
      have c0 : wr.cell? ⟨b', 0, none⟩ = some (.string op) := by simp [World.cell?, hbw]
      have HH : Hid (acc ++ words ((op, c) :: l2) = words l ∧ gk = ((op, c) :: l2).length ∧ (words l).length ≤ 140737488355328) := ⟨hw, hg, hlen⟩
      have hsz := hB.size
      -- what the round hands on, whatever the ops
      have hnext : ∀ acc', acc' = acc ++ pre op → ∃ l' : List (ByteArray × Int), l'.length < gk ∧ ∀ next, (v' = .nilIface ∧ next = .pointer none ∨ ∃ b2, v' = .iface 24 (.pointer (some ⟨b2, 0, none⟩)) ∧ next = .pointer (some ⟨b2, 0, none⟩)) → At w l l' acc' (.pointer (some ⟨b', 0, none⟩)) next := by
        rintro acc' rfl
        obtain ⟨hw', hg', _⟩ := HH.out
        refine ⟨l2, by rw [hg']; simp, ?_⟩
        intro next hn
        cases htail with
        | nil =>
          rcases hn with ⟨_, rfl⟩ | ⟨b2, hv, _⟩
          · exact .inr ⟨rfl, rfl, b', op, c, rfl, hb, by rw [← hw']; simp [words]⟩
          · cases hv
        | @cons b2 op2 c2 v2 l3 hb2 ht2 =>
          rcases hn with ⟨hv, _⟩ | ⟨b3, hv, rfl⟩
          · cases hv
          · injection hv with _ hv; injection hv with hv; injection hv with hv; injection hv with hv
            subst hv
            exact .inl ⟨b2, rfl, by simp, .cons hb2 ht2, by rw [← hw']; simp [words]⟩
      have HN : Hid (∀ acc', acc' = acc ++ pre op → ∃ l' : List (ByteArray × Int), l'.length < gk ∧ ∀ next, (v' = .nilIface ∧ next = .pointer none ∨ ∃ b2, v' = .iface 24 (.pointer (some ⟨b2, 0, none⟩)) ∧ next = .pointer (some ⟨b2, 0, none⟩)) → At w l l' acc' (.pointer (some ⟨b', 0, none⟩)) next) := hnext
      have hv' : v' = .nilIface ∨ ∃ b2, v' = .iface 24 (.pointer (some ⟨b2, 0, none⟩)) := by
        cases htail with
        | nil => exact .inl rfl
        | cons _ _ => exact .inr ⟨_, rfl⟩
      clear hnext hw hg hlen hne hne' h htail
      cases hem : op.toList.isEmpty with
      | true =>
        have c2 : wr.cell? ⟨b', 2, none⟩ = some v' := by simp [World.cell?, hbw]
        clear hbw hb
        obtain ⟨l', hl', hat⟩ := HN.out acc (by simp [pre, hem])
        rcases hv' with rfl | ⟨b2, rfl⟩
        · go_wp2_with fail
          go_roundg l'.length
          case measure => exact hl'
          case rel => exact ⟨l', acc, rfl, hI, hB, hat _ (.inl ⟨by trivial, rfl⟩)⟩
        · go_wp2_with fail
          go_roundg l'.length
          case measure => exact hl'
          case rel => exact ⟨l', acc, rfl, hI, hB, hat _ (.inr ⟨b2, rfl, rfl⟩)⟩
      | false =>
        have hsum : acc.length + op.size + 2 ≤ 140737488355328 := by
          obtain ⟨h1, _, h3⟩ := HH.out
          have := congrArg List.length h1
          have e : op.size = op.data.size := rfl
          have e2 : (words ((op, c) :: l2)).length ≥ (pre op).length := by
            cases l2 with
            | nil => simp [words]
            | cons y l3 => simp [words]
          have e3 : (pre op).length = op.data.size + 2 := by simp [pre, hem]
          simp at this
          omega
        go_wp2_with fail
        refine (writeString w.heap.size w.heap.size (Lib.byteCells acc) op _ hI (by rw [Lib.byteCells_length]; omega) hsz).mono ?_
        rintro e w1 ⟨rfl, hI1, hB1⟩
        go_wp2_with fail
        refine (writeString w.heap.size w.heap.size (Lib.byteCells acc ++ Lib.strCells op) ⟨#[58, 32]⟩ _ (.inr hI1) (by rw [List.length_append, Lib.byteCells_length, Lib.strCells_length]; exact hsum) (by have := hB1.size; omega)).mono ?_
        rintro e w2 ⟨rfl, hI2, hB2⟩
        obtain ⟨l', hl', hat⟩ := HN.out (acc ++ (op.data.toList ++ [58, 32])) (by simp [pre, hem])
        have hB3 : Below w.heap.size w w2 := (hB.trans hB1).trans hB2
        have hI3 : Lib.IsBuilder 54 5 w.heap.size w.heap.size (Lib.byteCells (acc ++ (op.data.toList ++ [58, 32]))) w2 := .inr (by
          rw [Lib.byteCells_append, Lib.byteCells_append, ← List.append_assoc]; exact hI2)
        have c2 : w2.cell? ⟨b', 2, none⟩ = some v' := by
          have : w2.heap[b']? = some (.cells #[.string op, .int .i64 c, v'] 28 (0, 0)) := (hB3.block b' hbl).trans hb
          simp [World.cell?, this]
        clear hI2 hI1 hI hB hB1 hB2 hbw hb c0 hsz hsum
        rcases hv' with rfl | ⟨b2, rfl⟩
        · go_wp2_with fail
          go_roundg l'.length
          case measure => exact hl'
          case rel => exact ⟨l', _, rfl, hI3, hB3, hat _ (.inl ⟨by trivial, rfl⟩)⟩
        · go_wp2_with fail
          go_roundg l'.length
          case measure => exact hl'
          case rel => exact ⟨l', _, rfl, hI3, hB3, hat _ (.inr ⟨b2, rfl, rfl⟩)⟩
    · have hE' := hE.below hB hE.two
      have hblw : wr.heap[bl]? = some (.cells #[.string op, .int .i64 c, .nilIface] 28 (0, 0)) := (hB.block bl (lt_of_heap hbl)).trans hbl
      have HH : Hid (acc ++ (nameOf c).data.toList = words l) := hw
      have hl2 : acc.length + (nameOf c).size ≤ 140737488355328 := by
        have := congrArg List.length hw
        simp at this
        have e : (nameOf c).size = (nameOf c).data.size := rfl
        omega
      clear hw hlen
      go_wp2_with fail
      refine (ending_plain bl op c wr hE' hblw).mono ?_
      rintro e w1 ⟨rfl, hB1⟩
      go_wp2_with fail
      refine (writeString w.heap.size w.heap.size (Lib.byteCells acc) (nameOf c) _ (isBuilder_kept hI hB1) (by rw [Lib.byteCells_length]; exact hl2) (by have := hB.size; have := hB1.size; omega)).mono ?_
      rintro e w2 ⟨rfl, hI2, hB2⟩
      go_wp2_with fail
      have hI3 : Lib.IsBuilder 54 5 w.heap.size w.heap.size (Lib.byteCells (words l)) w2 := .inr (by rw [← HH.out, Lib.byteCells_append]; exact hI2)
      refine (builderString w.heap.size w.heap.size (words l) _ hI3 (by have := hB.size; have := hB1.size; have := hB2.size; omega)).mono ?_
      rintro e w3 ⟨rfl, hB3⟩
      go_wp2_with fail
      go_ret
      exact ⟨rfl, ((hB.trans (hB1.mono hB.size)).trans hB2).trans hB3⟩
end Go.Proofs.YtdlnfojohkoifaaDoor
