/-
  (*fail.Failure).Error over an error; every error's words.
-/
import Derived.Test.YtekjnicgffeghaaDoorEErr
namespace Go.Proofs.YtekjnicgffeghaaDoor
open Go.RowKit Go.Extern.Stop Go.Stop Go.Extern

theorem keeps_of_new {B : Nat} {w w' : World} (h : Below B w w') (hB : w.heap.size ≤ B) : Keeps nobody w w' := ⟨h.os, h.tape, h.output, h.size, fun k hk _ => h.block k (by omega)⟩
/-- The builder's doings are all in new memory. -/
theorem keeps_of_below2 {w w1 w2 : World} (h : Keeps nobody w w1) (k : Below w.heap.size w1 w2) : Keeps nobody w w2 :=
  ⟨k.os.trans h.os, k.tape.trans h.tape, k.output.trans h.output, Nat.le_trans h.size k.size, fun n hn _ => (k.block n hn).trans (h.block n hn id)⟩
theorem words_plain (c : Int) : (Er.words (.fl ⟨#[]⟩ c .nil)) = nameOf c := by
  have e : pre ⟨#[]⟩ = ⟨#[]⟩ := by decide +kernel
  show pre ⟨#[]⟩ ++ nameOf c = nameOf c
  rw [e]
  apply ByteArray.ext
  simp
theorem builder_kept {p : Value} {B b : Nat} {bs : List Value} {w w' : World} (h : Lib.BuilderAt 105 5 B b p bs w) (hk : Keeps nobody w w') : Lib.BuilderAt 105 5 B b p bs w' := by
  have hlt := h.lt
  obtain ⟨hB, v, hb, hown, hne⟩ := h
  exact ⟨hB, v, (hk.block b hlt id).trans hb, hk.row hown (fun _ _ h => h), hne⟩
theorem isBuilder_kept {B b : Nat} {bs : List Value} {w w' : World} (h : Lib.IsBuilder 105 5 B b bs w) (hk : Keeps nobody w w') : Lib.IsBuilder 105 5 B b bs w' := by
  rcases h with h | h
  · exact .inl (builder_kept h hk)
  · exact .inr (builder_kept h hk)
def wl (s : ByteArray) : List UInt8 := s.data.toList
theorem wl_append (a b : ByteArray) : wl (a ++ b) = wl a ++ wl b := by simp [wl]
theorem wl_length (a : ByteArray) : (wl a).length = a.size := rfl
/-- What stands behind a failure's op. -/
def Er.tail (c : Int) (e : Er) : ByteArray := if e.isNil then nameOf c else e.words
theorem words_fl (op : ByteArray) (c : Int) (e : Er) : (Er.fl op c e).words = pre op ++ e.tail c := rfl

/-- Where the loop stands: at a failure, or behind the last one. -/
def At (w : World) (t : Er) (acc : List UInt8) (last next : Value) (k : Nat) : Prop :=
  (∃ b op c e, next = .pointer (some ⟨b, 0, none⟩) ∧ k = e.deep + 1 ∧ e.deep < t.deep ∧ Err w (flV b) (.fl op c e) ∧ acc ++ wl (Er.words (.fl op c e)) = wl t.words) ∨
  (next = .pointer none ∧ k = 0 ∧ ∃ b op c v e, last = .pointer (some ⟨b, 0, none⟩) ∧ w.heap[b]? = some (flObj op c v) ∧ Err w v e ∧ (∀ o c' e', e ≠ .fl o c' e') ∧ e.deep < t.deep ∧ acc ++ wl (e.tail c) = wl t.words)
/-- The next failure, or none. -/
theorem assert_next (w0 : World) (v : Value) (e : Er) (h : Err w0 v e) : (∃ b op c e', v = flV b ∧ e = .fl op c e' ∧ ∀ w, (Instr.typeAssert v 27 30 true).run Tryd.prog w = .ok (.tuple #[.pointer (some ⟨b, 0, none⟩), .bool true]) w) ∨
    ((∀ o c' e', e ≠ .fl o c' e') ∧ ∀ w, (Instr.typeAssert v 27 30 true).run Tryd.prog w = .ok (.tuple #[.pointer none, .bool false]) w) := by
  cases h with
  | nil => exact .inr ⟨(fun _ _ _ h => by cases h), nil_assert⟩
  | pl _ => exact .inr ⟨(fun _ _ _ h => by cases h), pl_assert _⟩
  | fl _ _ => exact .inl ⟨_, _, _, _, rfl, rfl, fl_assert _⟩

set_option maxRecDepth 100000 in
set_option maxHeartbeats 2000000 in
theorem error_fl (b0 : Nat) (op0 : ByteArray) (c0 : Int) (e0 : Er) (w0 w : World) (hE : Env w) (hk0 : Keeps nobody w0 w) (h : Err w0 (flV b0) (.fl op0 c0 e0)) (hlen : (Er.words (.fl op0 c0 e0)).size ≤ 1000000)
    (ih : ∀ (v : Value) (e : Er), e.deep < e0.deep + 1 → e.isNil = false → Err w0 v e → e.words.size ≤ 1000000 → Says w0 v e.words) :
    Calls Tryd.prog 56 #[.pointer (some ⟨b0, 0, none⟩)] w fun e w' => e = .returned (.string (Er.words (.fl op0 c0 e0))) ∧ Keeps nobody w w' := by
  have IH := hid ih
  have HL := hid hlen
  generalize ht : (Er.fl op0 c0 e0) = t at *
  have hdt : t.deep = e0.deep + 1 := by rw [← ht]; rfl
  clear ih hlen
  go_enter Tryd.func56, Tryd.ntmps56
  go_wp2_with fail
  go_loopg [4, 5] t.deep (fun k last next wr => ∃ acc, Lib.IsBuilder 105 5 w.heap.size w.heap.size (Lib.byteCells acc) wr ∧ Keeps nobody w wr ∧ At w0 t acc last next k)
  case atStart => exact ⟨[], Lib.fresh_isBuilder 105 5 w, keeps_alloc _ _, .inl ⟨b0, op0, c0, e0, rfl, hdt, by omega, by rw [ht]; exact h, by rw [ht]; rfl⟩⟩
  case round =>
    obtain ⟨acc, hI, hB, hAt⟩ := hrel
    rcases hAt with ⟨b', op, c, e, rfl, hg, hde, hE', hw⟩ | ⟨rfl, hg, b', op, c, v', e, rfl, hb, he, hnf, hdeep, hw⟩
    · cases hE' with
      | @fl _ _ _ v' _ hb he =>
      have hbl := lt_of_heap hb
      have hkk := hk0.then hB
      have hbw : wr.heap[b']? = some (flObj op c v') := (hkk.block b' hbl id).trans hb
      have c0' := cells_of hbw 0 _ rfl
      have hsz := hB.size
      have HDE := hid hde
      have hacc : acc.length + (pre op).size + (e.tail c).size ≤ 1000000 := by
        have h1 := congrArg List.length hw
        rw [words_fl, wl_append] at h1
        simp only [List.length_append, wl_length] at h1
        have := HL.out
        omega
      have HW : Hid (acc ++ wl (pre op) ++ wl (e.tail c) = wl t.words) := by
        show _ = _
        rw [← hw, words_fl, wl_append, List.append_assoc]
      have HR : Hid (∀ w1, Keeps nobody w w1 → w1.cell? ⟨b', 2, none⟩ = some v') := fun w1 h1 => cells_of (((hk0.then h1).block b' hbl id).trans hb) 2 _ rfl
      rcases assert_next w0 v' e he with ⟨b2, op2, c2, e2, rfl, rfl, hA⟩ | ⟨hnf, hA⟩
      · have HE := hid he
        have HB := hid hb
        have HD : Hid (e2.deep < t.deep) := by have := HDE.out; simp only [Er.deep] at this; exact Nat.lt_of_succ_lt this
        have HG : Hid ((e2.deep + 1) < gk) := by show _ < _; rw [hg]; simp [Er.deep]
        clear he hb hbw hw hg hkk
        cases hem : op.toList.isEmpty with
        | true =>
          have c2' := HR.out wr hB
          have hpe : wl (pre op) = [] := by unfold pre; rw [hem]; rfl
          rw [hpe, List.append_nil] at HW
          go_wp2_with fail
          go_roundg (e2.deep + 1)
          case measure => exact HG.out
          case rel => exact ⟨acc, hI, hB, (.inl ⟨b2, op2, c2, e2, rfl, rfl, HD.out, HE.out, HW.out⟩)⟩
        | false =>
          have hps : (pre op).size = op.size + 2 := by unfold pre; rw [hem]; simp; rfl
          have hpe : wl (pre op) = op.data.toList ++ [58, 32] := by unfold pre; rw [hem]; simp [wl]
          rw [hpe] at HW
          rw [hps] at hacc
          go_wp2_with fail
          refine (writeString w.heap.size w.heap.size (Lib.byteCells acc) op _ hI (by rw [Lib.byteCells_length]; omega) hsz).mono ?_
          rintro e1 w1 ⟨rfl, hI1, hB1⟩
          have K1 := keeps_of_below2 hB hB1
          go_wp2_with fail
          refine (writeString w.heap.size w.heap.size (Lib.byteCells acc ++ Lib.strCells op) ⟨#[58, 32]⟩ _ (.inr hI1) (by rw [List.length_append, Lib.byteCells_length, Lib.strCells_length]; show _ + 2 ≤ _; omega) (by have := hB1.size; omega)).mono ?_
          rintro e1 w2 ⟨rfl, hI2, hB2⟩
          have K2 := keeps_of_below2 K1 hB2
          have c2' := HR.out w2 K2
          have hI3 : Lib.IsBuilder 105 5 w.heap.size w.heap.size (Lib.byteCells (acc ++ (op.data.toList ++ [58, 32]))) w2 := .inr (by
            rw [Lib.byteCells_append, Lib.byteCells_append, ← List.append_assoc]; exact hI2)
          clear hI2 hI1 hI hB hB1 hB2 c0' hsz hacc K1 HR
          go_wp2_with fail
          go_roundg (e2.deep + 1)
          case measure => exact HG.out
          case rel => exact ⟨_, hI3, K2, (.inl ⟨b2, op2, c2, e2, rfl, rfl, HD.out, HE.out, HW.out⟩)⟩
      · have HE := hid he
        have HB := hid hb
        have HD : Hid (e.deep < t.deep) := HDE.out
        have HG : Hid (0 < gk) := by show _ < _; rw [hg]; omega
        clear he hb hbw hw hg hkk
        cases hem : op.toList.isEmpty with
        | true =>
          have c2' := HR.out wr hB
          have hpe : wl (pre op) = [] := by unfold pre; rw [hem]; rfl
          rw [hpe, List.append_nil] at HW
          go_wp2_with fail
          go_roundg 0
          case measure => exact HG.out
          case rel => exact ⟨acc, hI, hB, (.inr ⟨rfl, rfl, b', op, c, v', e, rfl, HB.out, HE.out, hnf, HD.out, HW.out⟩)⟩
        | false =>
          have hps : (pre op).size = op.size + 2 := by unfold pre; rw [hem]; simp; rfl
          have hpe : wl (pre op) = op.data.toList ++ [58, 32] := by unfold pre; rw [hem]; simp [wl]
          rw [hpe] at HW
          rw [hps] at hacc
          go_wp2_with fail
          refine (writeString w.heap.size w.heap.size (Lib.byteCells acc) op _ hI (by rw [Lib.byteCells_length]; omega) hsz).mono ?_
          rintro e1 w1 ⟨rfl, hI1, hB1⟩
          have K1 := keeps_of_below2 hB hB1
          go_wp2_with fail
          refine (writeString w.heap.size w.heap.size (Lib.byteCells acc ++ Lib.strCells op) ⟨#[58, 32]⟩ _ (.inr hI1) (by rw [List.length_append, Lib.byteCells_length, Lib.strCells_length]; show _ + 2 ≤ _; omega) (by have := hB1.size; omega)).mono ?_
          rintro e1 w2 ⟨rfl, hI2, hB2⟩
          have K2 := keeps_of_below2 K1 hB2
          have c2' := HR.out w2 K2
          have hI3 : Lib.IsBuilder 105 5 w.heap.size w.heap.size (Lib.byteCells (acc ++ (op.data.toList ++ [58, 32]))) w2 := .inr (by
            rw [Lib.byteCells_append, Lib.byteCells_append, ← List.append_assoc]; exact hI2)
          clear hI2 hI1 hI hB hB1 hB2 c0' hsz hacc K1 HR
          go_wp2_with fail
          go_roundg 0
          case measure => exact HG.out
          case rel => exact ⟨_, hI3, K2, (.inr ⟨rfl, rfl, b', op, c, v', e, rfl, HB.out, HE.out, hnf, HD.out, HW.out⟩)⟩
    · have hkk := hk0.then hB
      have hbw : wr.heap[b']? = some (flObj op c v') := (hkk.block b' (lt_of_heap hb) id).trans hb
      have hsz := hB.size
      have HEnd : Hid (Calls Tryd.prog 60 #[.pointer (some ⟨b', 0, none⟩)] wr fun e1 w' => e1 = .returned (.string (e.tail c)) ∧ Keeps nobody wr w') := by
        cases hn : e.isNil with
        | true =>
          cases he with
          | nil => exact ending_plain b' op c wr (hE.quiet hB) hbw
          | _ => simp [Er.isNil] at hn
        | false =>
          have e1 : e.tail c = e.words := by simp [Er.tail, hn]
          have h1 := congrArg List.length hw
          rw [e1] at h1 ⊢
          simp only [List.length_append, wl_length] at h1
          have := HL.out
          exact ending_some b' op c v' e.words w0 wr (hE.quiet hB) hkk hbw (IH.out v' e (by omega) hn he (by omega))
      have hl2 : acc.length + (e.tail c).size ≤ 140737488355328 := by
        have h1 := congrArg List.length hw
        simp only [List.length_append, wl_length] at h1
        have := HL.out
        omega
      have HW := hid hw
      clear hw hb hbw he IH hnf hdeep hkk
      go_wp2_with fail
      refine Calls.mono HEnd.out ?_
      rintro e1 w1 ⟨rfl, k1⟩
      have K1 := hB.then k1
      have z1 := k1.size
      go_wp2_with fail
      refine (writeString w.heap.size w.heap.size (Lib.byteCells acc) (e.tail c) _ (isBuilder_kept hI k1) (by rw [Lib.byteCells_length]; exact hl2) (by omega)).mono ?_
      rintro e1 w2 ⟨rfl, hI2, hB2⟩
      have K2 := keeps_of_below2 K1 hB2
      have z2 := hB2.size
      have hI3 : Lib.IsBuilder 105 5 w.heap.size w.heap.size (Lib.byteCells (wl t.words)) w2 := .inr (by rw [← HW.out, Lib.byteCells_append]; exact hI2)
      go_wp2_with fail
      refine (builderString w.heap.size w.heap.size (wl t.words) _ hI3 (by omega)).mono ?_
      rintro e1 w3 ⟨rfl, hB3⟩
      go_wp2_with fail
      go_ret
      exact ⟨rfl, keeps_of_below2 K2 hB3⟩

theorem says_ok (n : Nat) : ∀ (w0 : World) (v : Value) (t : Er), t.deep ≤ n → t.isNil = false → Err w0 v t → t.words.size ≤ 1000000 → Says w0 v t.words := by
  induction n with
  | zero => intro w0 v t hd hn; have := Er.deep_pos hn; omega
  | succ n ih =>
    intro w0 v t hd hn hE hl
    cases hE with
    | nil => simp [Er.isNil] at hn
    | @pl b m hb => exact says_pl w0 b m hb
    | @fl b op c v' e hb he =>
      simp only [Er.deep] at hd
      exact ⟨_, _, _, rfl, fl_mError _, fl_enter _, fun w hEnv hk => error_fl b op c e w0 w hEnv hk (.fl hb he) hl fun v1 e1 h1 h2 h3 h4 => ih w0 v1 e1 (by omega) h2 h3 h4⟩
end Go.Proofs.YtekjnicgffeghaaDoor
