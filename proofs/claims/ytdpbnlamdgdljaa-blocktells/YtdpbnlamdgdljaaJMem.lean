/-
  Package block: a Blocks in memory; New, made, Open, shut, follows.
-/
import Derived.Test.YtdpbnlamdgdljaaJSpec
import Derived.Test.YtdpbnlamdgdljaaUCheck
import Derived.Test.YtdpbnlamdgdljaaGHeld
import Derived.BigQuiet
namespace Go.Proofs.Ytdpbnlamdgdljaa
open Go.RowKit
attribute [local irreducible] numL byteAt endOf idOf nums str

/-- A Blocks lies there. -/
structure Bl (w : World) (g : Nat) (v : Value) (most : Nat) (o : Opn) : Prop where
  blk : w.heap[g]? = some (.cells #[.int .i64 (most : Int), .int .i64 o.id, .bool o.fin, v] 63 (0, 0))
  held : Hb w v o.bytes
  apart : v.ownBlock ≠ some g
  bound : 1 ≤ most ∧ most ≤ 9223372036854775807
  empty : o.id = 0 → o.bytes = ⟨#[]⟩
  fits : o.bytes.size ≤ most
/-- A Blocks as a thing. -/
def blT (g : Nat) (v : Value) (most : Nat) (o : Opn) : Thing := ⟨sfoot g v, fun w => Bl w g v most o⟩
section
variable {w w' : World} {g : Nat} {v : Value} {most : Nat} {o : Opn}
theorem Bl.lt (h : Bl w g v most o) : g < w.heap.size := (Array.getElem?_eq_some_iff.1 h.blk).1
theorem Bl.cells (h : Bl w g v most o) : w.cell? ⟨g, 0, none⟩ = some (.int .i64 (most : Int)) ∧ w.cell? ⟨g, 1, none⟩ = some (.int .i64 o.id) ∧ w.cell? ⟨g, 2, none⟩ = some (.bool o.fin) ∧ w.cell? ⟨g, 3, none⟩ = some v ∧ ∀ n, w.frozen? ⟨g, n, none⟩ = false := by
  refine ⟨?_, ?_, ?_, ?_, fun n => ?_⟩ <;> simp [World.cell?, World.frozen?, h.blk]
theorem Bl.keeps {S : Nat → Prop} (h : Bl w g v most o) (hk : Keeps S w w') (hS : ∀ k, sfoot g v k → ¬ S k) : Bl w' g v most o :=
  ⟨by rw [hk.block g h.lt (hS g (.inl rfl))]; exact h.blk, h.held.keeps hk fun k e => hS k (.inr e), h.apart, h.bound, h.empty, h.fits⟩
theorem Bl.quiet (h : Bl w g v most o) (hk : Keeps nobody w w') : Bl w' g v most o := h.keeps hk fun _ _ => id
theorem blT_ok : (blT g v most o).Ok :=
  ⟨fun h hk hS => Bl.keeps h hk hS, fun {w} h k hk => by
    have h' : Bl w g v most o := h
    rcases hk with rfl | hk
    · exact h'.lt
    · exact h'.held.lt k hk⟩
theorem Bl.did (h : Bl w g v most o) (hk : Keeps nobody w w') : Did (blT g v most o) (blT g v most o) w w' := Did.quiet blT_ok h hk
/-- The fields laid anew. -/
theorem Bl.relay {o' : Opn} {v' : Value} {w1 w2 : World} (h : Bl w g v most o) (hg : w.grownBy w1 v.ownBlock) (hb : w2.heap[g]? = some (.cells #[.int .i64 (most : Int), .int .i64 o'.id, .bool o'.fin, v'] 63 (0, 0)))
    (hk : Keeps (fun k => k = g) w1 w2) (hv : Hb w1 v' o'.bytes) (hn : ∀ k, v'.ownBlock = some k → v.ownBlock = some k ∨ w.heap.size ≤ k) (ho : o'.id = 0 → o'.bytes = ⟨#[]⟩) (hs : o'.bytes.size ≤ most) :
    Did (blT g v most o) (blT g v' most o') w w2 := by
  have hap : v'.ownBlock ≠ some g := fun e => by
    rcases hn g e with h1 | h1
    · exact h.apart h1
    · have := h.lt
      omega
  refine ⟨blT_ok, ⟨hb, hv.keeps hk fun k e hkg => hap (by rw [e, hkg]), hap, h.bound, ho, hs⟩, ?_, ?_⟩
  · refine ((Keeps.refl (sfoot g v) w).grown hg fun k e => .inl (.inr e)).trans hk fun k _ e => .inl e
  · rintro k (rfl | e)
    · exact .inl (.inl rfl)
    · rcases hn k e with h1 | h1
      · exact .inl (.inr h1)
      · exact .inr h1
end

theorem new_no (m : Int) (w : World) (h : m < 1) : Calls Try.prog 14 #[.int .i64 m] w fun e w' => e = .returned (.pointer none) ∧ w = w' := by
  go_enter Try.func14, Try.ntmps14
  go_wp2
  go_ret
  exact ⟨rfl, rfl⟩
theorem new_ok (m : Nat) (w : World) (h1 : 1 ≤ m) (h2 : m ≤ 9223372036854775807) : Calls Try.prog 14 #[.int .i64 (m : Int)] w fun e w' => e = .returned (.pointer (some ⟨w.heap.size, 0, none⟩)) ∧ Keeps nobody w w' ∧ Bl w' w.heap.size (.slice none 0 0) m noO := by
  go_enter Try.func14, Try.ntmps14
  go_wp2
  go_ret
  exact ⟨rfl, keeps_alloc _ _, ⟨heap_alloc_new w _, .inl ⟨rfl, rfl⟩, by simp [Value.ownBlock], ⟨h1, h2⟩, fun _ => rfl, Nat.zero_le _⟩⟩
theorem made_nil (w : World) : Calls Try.prog 22 #[.pointer none] w fun e w' => e = .returned (.bool false) ∧ w = w' := by
  go_enter Try.func22, Try.ntmps22
  go_wp2
  go_ret
  exact ⟨rfl, rfl⟩
theorem made_ok {w : World} {g : Nat} {v : Value} {most : Nat} {o : Opn} (h : Bl w g v most o) : Calls Try.prog 22 #[.pointer (some ⟨g, 0, none⟩)] w fun e w' => e = .returned (.bool true) ∧ w = w' := by
  obtain ⟨h0, _, _, _, _⟩ := h.cells
  have hm : ((most : Int) != 0) = true := by have := h.bound.1; simp; omega
  clear h
  go_enter Try.func22, Try.ntmps22
  go_wp2
  go_ret
  exact ⟨rfl, rfl⟩
theorem open_nil (w : World) : Calls Try.prog 16 #[.pointer none] w fun e w' => e = .returned (.int .i64 0) ∧ w = w' := by
  have HM : Hid (∀ W, Calls Try.prog 22 #[.pointer none] W fun e w' => e = .returned (.bool false) ∧ W = w') := made_nil
  go_enter Try.func16, Try.ntmps16
  go_wp2_with fail
  refine Calls.mono (HM.out _) ?_
  rintro e w1 ⟨rfl, rfl⟩
  go_wp2
  go_ret
  exact ⟨rfl, rfl⟩
theorem open_ok {w : World} {g : Nat} {v : Value} {most : Nat} {o : Opn} (h : Bl w g v most o) : Calls Try.prog 16 #[.pointer (some ⟨g, 0, none⟩)] w fun e w' => e = .returned (.int .i64 o.id) ∧ w = w' := by
  have HM : Hid (Calls Try.prog 22 #[.pointer (some ⟨g, 0, none⟩)] w fun e w' => e = .returned (.bool true) ∧ w = w') := made_ok h
  obtain ⟨_, h1, _, _, _⟩ := h.cells
  clear h
  go_enter Try.func16, Try.ntmps16
  go_wp2_with fail
  refine Calls.mono HM.out ?_
  rintro e w1 ⟨rfl, rfl⟩
  go_wp2
  go_ret
  exact ⟨rfl, rfl⟩
theorem shut_ok {w : World} {g : Nat} {v : Value} {most : Nat} {o : Opn} (h : Bl w g v most o) : Calls Try.prog 24 #[.pointer (some ⟨g, 0, none⟩)] w fun e w' => e = .returned (.tuple #[]) ∧ Did (blT g v most o) (blT g (.slice none 0 0) most noO) w w' := by
  obtain ⟨_, h1, h2, h3, hf⟩ := h.cells
  have HD : Hid (Did (blT g v most o) (blT g (.slice none 0 0) most noO) w (((w.setCell ⟨g, 1, none⟩ (.int .i64 0)).setCell ⟨g, 2, none⟩ (.bool false)).setCell ⟨g, 3, none⟩ (.slice none 0 0))) := by
    refine h.relay (World.grownBy.refl _ _) ?_ ((((Keeps.refl (fun k => k = g) w).setCell (p := ⟨g, 1, none⟩) (.inl rfl) _).setCell (p := ⟨g, 2, none⟩) (.inl rfl) _).setCell (p := ⟨g, 3, none⟩) (.inl rfl) _) (.inl ⟨rfl, rfl⟩) (fun k e => by cases e) (fun _ => rfl) (Nat.zero_le _)
    simp [World.setCell, h.blk, Array.getElem?_modify, noO]
  clear h
  go_enter Try.func24, Try.ntmps24
  go_wp2
  refine bodyPost_end (v := .tuple #[]) (by simp [results, Try.results24, go_sem]) rfl ⟨rfl, HD.out⟩
theorem follows_ok {w : World} {g : Nat} {v : Value} {most : Nat} {o : Opn} (h : Bl w g v most o) (f : Frm) : Calls Try.prog 49 #[.pointer (some ⟨g, 0, none⟩), frval f] w fun e w' => e = .returned (.bool (followA o.id f)) ∧ Keeps nobody w w' := by
  obtain ⟨_, h1, _, _, _⟩ := h.cells
  have hlt := h.lt
  obtain ⟨i, fn, B⟩ := o
  obtain ⟨k, fl, id, b⟩ := f
  simp only at h1
  clear h
  have c1 := ((keeps_alloc w (frobj k fl id b)).cell (p := ⟨g, 1, none⟩) hlt (fun h => h)).trans h1
  by_cases h0 : i = 0
  · subst h0
    have e : followA 0 ⟨k, fl, id, b⟩ = (k != 9) := by
      show (if (0 : Int) = 0 then _ else _) = _
      rw [if_pos rfl]
      by_cases hk : k = 9 <;> simp [hk]
    rw [e]
    clear e
    go_enter Try.func49, Try.ntmps49
    go_wp2
    go_ret
    exact ⟨rfl, keeps_alloc _ _⟩
  · have e : followA i ⟨k, fl, id, b⟩ = (k == 9 && id == i) := by
      show (if i = 0 then _ else _) = _
      rw [if_neg h0]
      by_cases hk : k = 9 <;> by_cases hi : id = i <;> simp [hk, hi]
    rw [e]
    have g0 : (i == 0) = false := by simpa using h0
    clear e h0
    cases hk : (k == 9) with
    | false =>
      go_enter Try.func49, Try.ntmps49
      go_wp2_with fail
      go_quiet (fail)
      go_wp2
      go_ret
      exact ⟨rfl, (keeps_alloc _ _).drewN _⟩
    | true =>
      cases hi : (id == i) with
      | false =>
        go_enter Try.func49, Try.ntmps49
        go_wp2_with fail
        go_quiet (fail)
        go_wp2
        go_ret
        exact ⟨rfl, (keeps_alloc _ _).drewN _⟩
      | true =>
        go_enter Try.func49, Try.ntmps49
        go_wp2_with fail
        go_quiet (fail)
        go_wp2
        go_ret
        exact ⟨rfl, (keeps_alloc _ _).drewN _⟩
end Go.Proofs.Ytdpbnlamdgdljaa
