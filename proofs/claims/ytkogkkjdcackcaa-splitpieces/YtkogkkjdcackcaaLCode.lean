/-
  Package split: a Splitter in memory; New, made, Over, Held, Feed.
-/
import Derived.Test.YtkogkkjdcackcaaLMem
import Derived.Test.YtkogkkjdcackcaaLSpec
import Derived.Test.YtkogkkjdcackcaaGBits
namespace Go.Proofs.Ytkogkkjdcackcaa
open Go.RowKit
attribute [local irreducible] numL byteAt endOf idOf nums str num3

/-- A Splitter lies there. -/
structure Sp (w : World) (g : Nat) (v : Value) (most : Nat) (o : Bool) (B : ByteArray) : Prop where
  blk : w.heap[g]? = some (.cells #[.int .i64 (most : Int), .bool o, v] 49 (0, 0))
  held : Hb w v B
  apart : v.ownBlock ≠ some g
  most : 64 ≤ most ∧ most ≤ 512
  over : o = true → B = ⟨#[]⟩
  small : B.size ≤ 140737488355328
def sfoot (g : Nat) (v : Value) : Nat → Prop := fun k => k = g ∨ v.ownBlock = some k
/-- A Splitter as a thing. -/
def spT (g : Nat) (v : Value) (most : Nat) (o : Bool) (B : ByteArray) : Thing := ⟨sfoot g v, fun w => Sp w g v most o B⟩
section
variable {w w' : World} {g : Nat} {v : Value} {most : Nat} {o : Bool} {B : ByteArray}
theorem Sp.lt (h : Sp w g v most o B) : g < w.heap.size := (Array.getElem?_eq_some_iff.1 h.blk).1
theorem Sp.cells (h : Sp w g v most o B) : w.cell? ⟨g, 0, none⟩ = some (.int .i64 (most : Int)) ∧ w.cell? ⟨g, 1, none⟩ = some (.bool o) ∧ w.cell? ⟨g, 2, none⟩ = some v ∧ ∀ n, w.frozen? ⟨g, n, none⟩ = false := by
  refine ⟨?_, ?_, ?_, fun n => ?_⟩ <;> simp [World.cell?, World.frozen?, h.blk]
theorem Sp.keeps {S : Nat → Prop} (h : Sp w g v most o B) (hk : Keeps S w w') (hS : ∀ k, sfoot g v k → ¬ S k) : Sp w' g v most o B :=
  ⟨by rw [hk.block g h.lt (hS g (.inl rfl))]; exact h.blk, h.held.keeps hk fun k e => hS k (.inr e), h.apart, h.most, h.over, h.small⟩
theorem Sp.quiet (h : Sp w g v most o B) (hk : Keeps nobody w w') : Sp w' g v most o B := h.keeps hk fun _ _ => id
theorem spT_ok : (spT g v most o B).Ok :=
  ⟨fun h hk hS => Sp.keeps h hk hS, fun {w} h k hk => by
    have h' : Sp w g v most o B := h
    rcases hk with rfl | hk
    · exact h'.lt
    · exact h'.held.lt k hk⟩
theorem Sp.did (h : Sp w g v most o B) (hk : Keeps nobody w w') : Did (spT g v most o B) (spT g v most o B) w w' := Did.quiet spT_ok h hk
/-- The Splitter's fields laid anew. -/
theorem Sp.relay {o' : Bool} {v' : Value} {B' : ByteArray} {w1 w2 : World} (h : Sp w g v most o B) (hg : w.grownBy w1 v.ownBlock) (hb : w2.heap[g]? = some (.cells #[.int .i64 (most : Int), .bool o', v'] 49 (0, 0)))
    (hk : Keeps (fun k => k = g) w1 w2) (hv : Hb w1 v' B') (hn : ∀ k, v'.ownBlock = some k → v.ownBlock = some k ∨ w.heap.size ≤ k) (ho : o' = true → B' = ⟨#[]⟩) (hs : B'.size ≤ 140737488355328) :
    Did (spT g v most o B) (spT g v' most o' B') w w2 := by
  have hap : v'.ownBlock ≠ some g := fun e => by
    rcases hn g e with h1 | h1
    · exact h.apart h1
    · have := h.lt
      omega
  refine ⟨spT_ok, ⟨hb, hv.keeps hk fun k e hkg => hap (by rw [e, hkg]), hap, h.most, ho, hs⟩, ?_, ?_⟩
  · refine ((Keeps.refl (sfoot g v) w).grown hg fun k e => .inl (.inr e)).trans hk fun k _ e => .inl e
  · rintro k (rfl | e)
    · exact .inl (.inl rfl)
    · rcases hn k e with h1 | h1
      · exact .inl (.inr h1)
      · exact .inr h1
end

theorem new_no (m : Int) (w : World) (h : m < 64 ∨ 512 < m) : Calls Try.prog 10 #[.int .i64 m] w fun e w' => e = .returned (.pointer none) ∧ w = w' := by
  by_cases h1 : m < 64
  · clear h
    go_enter Try.func10, Try.ntmps10
    go_wp2
    go_ret
    exact ⟨rfl, rfl⟩
  · have h2 : 512 < m := by omega
    have h3 : 64 ≤ m := by omega
    clear h h1
    go_enter Try.func10, Try.ntmps10
    go_wp2
    go_ret
    exact ⟨rfl, rfl⟩
theorem new_ok (m : Nat) (w : World) (h1 : 64 ≤ m) (h2 : m ≤ 512) : Calls Try.prog 10 #[.int .i64 (m : Int)] w fun e w' => e = .returned (.pointer (some ⟨w.heap.size, 0, none⟩)) ∧ Keeps nobody w w' ∧ Sp w' w.heap.size (.slice none 0 0) m false ⟨#[]⟩ := by
  go_enter Try.func10, Try.ntmps10
  go_wp2
  go_ret
  exact ⟨rfl, keeps_alloc _ _, ⟨heap_alloc_new w _, .inl ⟨rfl, rfl⟩, by simp [Value.ownBlock], ⟨h1, h2⟩, fun e => (by cases e), by decide⟩⟩
theorem made_nil (w : World) : Calls Try.prog 19 #[.pointer none] w fun e w' => e = .returned (.bool false) ∧ w = w' := by
  go_enter Try.func19, Try.ntmps19
  go_wp2
  go_ret
  exact ⟨rfl, rfl⟩
theorem made_ok {w : World} {g : Nat} {v : Value} {most : Nat} {o : Bool} {B : ByteArray} (h : Sp w g v most o B) : Calls Try.prog 19 #[.pointer (some ⟨g, 0, none⟩)] w fun e w' => e = .returned (.bool true) ∧ w = w' := by
  obtain ⟨h0, _, _, _⟩ := h.cells
  have hm : ((most : Int) != 0) = true := by have := h.most.1; simp; omega
  clear h
  go_enter Try.func19, Try.ntmps19
  go_wp2
  go_ret
  exact ⟨rfl, rfl⟩
theorem over_nil (w : World) : Calls Try.prog 14 #[.pointer none] w fun e w' => e = .returned (.bool true) ∧ w = w' := by
  have HM : Hid (∀ W, Calls Try.prog 19 #[.pointer none] W fun e w' => e = .returned (.bool false) ∧ W = w') := made_nil
  go_enter Try.func14, Try.ntmps14
  go_wp2_with fail
  refine Calls.mono (HM.out _) ?_
  rintro e w1 ⟨rfl, rfl⟩
  go_wp2
  go_ret
  exact ⟨rfl, rfl⟩
theorem over_ok {w : World} {g : Nat} {v : Value} {most : Nat} {o : Bool} {B : ByteArray} (h : Sp w g v most o B) : Calls Try.prog 14 #[.pointer (some ⟨g, 0, none⟩)] w fun e w' => e = .returned (.bool o) ∧ w = w' := by
  have HM : Hid (Calls Try.prog 19 #[.pointer (some ⟨g, 0, none⟩)] w fun e w' => e = .returned (.bool true) ∧ w = w') := made_ok h
  obtain ⟨_, h1, _, _⟩ := h.cells
  clear h
  go_enter Try.func14, Try.ntmps14
  go_wp2_with fail
  refine Calls.mono HM.out ?_
  rintro e w1 ⟨rfl, rfl⟩
  go_wp2
  go_ret
  exact ⟨rfl, rfl⟩
theorem held_nil (w : World) : Calls Try.prog 13 #[.pointer none] w fun e w' => e = .returned (.int .i64 0) ∧ w = w' := by
  have HM : Hid (∀ W, Calls Try.prog 19 #[.pointer none] W fun e w' => e = .returned (.bool false) ∧ W = w') := made_nil
  go_enter Try.func13, Try.ntmps13
  go_wp2_with fail
  refine Calls.mono (HM.out _) ?_
  rintro e w1 ⟨rfl, rfl⟩
  go_wp2
  go_ret
  exact ⟨rfl, rfl⟩
theorem held_ok {w : World} {g : Nat} {v : Value} {most : Nat} {o : Bool} {B : ByteArray} (h : Sp w g v most o B) : Calls Try.prog 13 #[.pointer (some ⟨g, 0, none⟩)] w fun e w' => e = .returned (.int .i64 (B.size : Int)) ∧ w = w' := by
  have HM : Hid (Calls Try.prog 19 #[.pointer (some ⟨g, 0, none⟩)] w fun e w' => e = .returned (.bool true) ∧ w = w') := made_ok h
  obtain ⟨_, _, h2, _⟩ := h.cells
  obtain ⟨a, c, rfl, _⟩ := h.held.slice
  clear h
  go_enter Try.func13, Try.ntmps13
  go_wp2_with fail
  refine Calls.mono HM.out ?_
  rintro e w1 ⟨rfl, rfl⟩
  go_wp2
  go_ret
  exact ⟨rfl, rfl⟩
theorem feed_nil (b : ByteArray) (w : World) : Calls Try.prog 12 #[.pointer none, .string b] w fun e w' => e = .returned (.int .i64 0) ∧ w = w' := by
  have HM : Hid (∀ W, Calls Try.prog 14 #[.pointer none] W fun e w' => e = .returned (.bool true) ∧ W = w') := over_nil
  go_enter Try.func12, Try.ntmps12
  go_wp2_with fail
  refine Calls.mono (HM.out _) ?_
  rintro e w1 ⟨rfl, rfl⟩
  go_wp2
  go_ret
  exact ⟨rfl, rfl⟩
theorem feed_over {w : World} {g : Nat} {v : Value} {most : Nat} {B : ByteArray} (h : Sp w g v most true B) (b : ByteArray) : Calls Try.prog 12 #[.pointer (some ⟨g, 0, none⟩), .string b] w fun e w' => e = .returned (.int .i64 0) ∧ w = w' := by
  have HM : Hid (Calls Try.prog 14 #[.pointer (some ⟨g, 0, none⟩)] w fun e w' => e = .returned (.bool true) ∧ w = w') := over_ok h
  clear h
  go_enter Try.func12, Try.ntmps12
  go_wp2_with fail
  refine Calls.mono HM.out ?_
  rintro e w1 ⟨rfl, rfl⟩
  go_wp2
  go_ret
  exact ⟨rfl, rfl⟩
theorem feed_ok {w : World} {g : Nat} {v : Value} {most : Nat} {B : ByteArray} (h : Sp w g v most false B) (b : ByteArray) (hs : B.size + b.size ≤ 140737488355328) : Calls Try.prog 12 #[.pointer (some ⟨g, 0, none⟩), .string b] w fun e w' => e = .returned (.int .i64 (b.size : Int)) ∧ ∃ v', Did (spT g v most false B) (spT g v' most false (B ++ b)) w w' := by
  have HM : Hid (Calls Try.prog 14 #[.pointer (some ⟨g, 0, none⟩)] w fun e w' => e = .returned (.bool false) ∧ w = w') := over_ok h
  obtain ⟨a, c, w1, hr, hb, hg, hn⟩ := hb_append h.held b hs 46
  obtain ⟨_, _, h2, _⟩ := h.cells
  have hb1 : w1.heap[g]? = some (.cells #[.int .i64 (most : Int), .bool false, v] 49 (0, 0)) := by
    rw [hg.block g h.lt fun e => h.apart e.symm]; exact h.blk
  have c1 : w1.cell? ⟨g, 2, none⟩ = some v := by simp [World.cell?, hb1]
  have f1 : w1.frozen? ⟨g, 2, none⟩ = false := by simp [World.frozen?, hb1]
  have HD : Hid (∃ v', Did (spT g v most false B) (spT g v' most false (B ++ b)) w (w1.setCell ⟨g, 2, none⟩ (.slice a (B.size + b.size) c))) := by
    refine ⟨.slice a (B.size + b.size) c, h.relay hg ?_ ((Keeps.refl (fun k => k = g) w1).setCell (p := ⟨g, 2, none⟩) (.inl rfl) _) hb hn (fun e => by cases e) (by simpa using hs)⟩
    simp [World.setCell, hb1, Array.getElem?_modify]
  have HR := hid hr
  clear h hb hg hn hb1 hr
  generalize B.size + b.size = m at *
  go_enter Try.func12, Try.ntmps12
  go_wp2_with fail
  refine Calls.mono HM.out ?_
  rintro e w2 ⟨rfl, rfl⟩
  go_wp2_with (at_builtin; refine wpList_append_run rfl _ _ 46 9 rfl v (.string b) rfl rfl HR.out ?_)
  go_ret
  exact ⟨rfl, HD.out⟩
end Go.Proofs.Ytkogkkjdcackcaa
