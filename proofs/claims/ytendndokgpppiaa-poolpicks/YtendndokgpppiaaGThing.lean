/-
  Things in memory, each in blocks of its own: what is done to one leaves the others as they are.
-/
import Derived.Test.YtendndokgpppiaaGMem
namespace Go.Proofs.Ytendndokgpppiaa
open Go.RowKit

/-- A thing: the blocks that it lies in, and what it is there. -/
structure Thing where
  foot : Nat → Prop
  inv : World → Prop
/-- It hangs on its own blocks alone. -/
structure Thing.Ok (t : Thing) : Prop where
  keeps : ∀ {S : Nat → Prop} {w w' : World}, t.inv w → Keeps S w w' → (∀ k, t.foot k → ¬ S k) → t.inv w'
  lt : ∀ {w : World}, t.inv w → ∀ k, t.foot k → k < w.heap.size
/-- Something was done to t, which is t' now: nothing else has turned. -/
structure Did (t t' : Thing) (w w' : World) : Prop where
  ok : t'.Ok
  inv : t'.inv w'
  keeps : Keeps t.foot w w'
  foot : ∀ k, t'.foot k → t.foot k ∨ w.heap.size ≤ k
/-- These things are there, each by itself, all made since W. -/
structure Hold (W w : World) (ts : List Thing) : Prop where
  below : Below W.heap.size W w
  ok : ∀ t ∈ ts, t.Ok
  inv : ∀ t ∈ ts, t.inv w
  new : ∀ t ∈ ts, ∀ k, t.foot k → W.heap.size ≤ k
  apart : ts.Pairwise fun a b => ∀ k, a.foot k → ¬ b.foot k
section
variable {W w w' w'' : World} {ts a b : List Thing} {t t' t'' : Thing}
theorem Did.same (ok : t.Ok) (inv : t.inv w) : Did t t w w := ⟨ok, inv, Keeps.refl _ _, fun _ h => .inl h⟩
theorem Did.trans (h : Did t t' w w') (k : Did t' t'' w' w'') : Did t t'' w w'' :=
  ⟨k.ok, k.inv, h.keeps.trans k.keeps fun n hn e => by
      rcases h.foot n e with e | e
      · exact e
      · omega, fun n e => by
      rcases k.foot n e with e | e
      · exact h.foot n e
      · exact .inr (Nat.le_trans h.keeps.size e)⟩
/-- Quiet doings ahead of it, and behind it. -/
theorem Did.before (hk : Keeps nobody w w') (h : Did t t' w' w'') : Did t t' w w'' :=
  ⟨h.ok, h.inv, (hk.mono fun _ _ e => e.elim).trans h.keeps fun _ _ e => e, fun n e => by
      rcases h.foot n e with e | e
      · exact .inl e
      · exact .inr (Nat.le_trans hk.size e)⟩
theorem Did.then (h : Did t t' w w') (hk : Keeps nobody w' w'') : Did t t' w w'' :=
  ⟨h.ok, h.ok.keeps h.inv hk fun _ _ => id, h.keeps.then hk, h.foot⟩
theorem Did.quiet (ok : t.Ok) (inv : t.inv w) (hk : Keeps nobody w w') : Did t t w w' := (Did.same ok inv).then hk

theorem hold_nil (hB : Below W.heap.size W w) : Hold W w [] := ⟨hB, (fun _ h => by cases h), (fun _ h => by cases h), (fun _ h => by cases h), List.Pairwise.nil⟩
theorem Hold.quiet (h : Hold W w ts) (hk : Keeps nobody w w') : Hold W w' ts :=
  ⟨hk.below h.below (fun _ e => e.elim) h.below.size, h.ok, fun t ht => (h.ok t ht).keeps (h.inv t ht) hk fun _ _ => id, h.new, h.apart⟩
theorem Hold.lt (h : Hold W w ts) (ht : t ∈ ts) : ∀ k, t.foot k → k < w.heap.size := (h.ok t ht).lt (h.inv t ht)
/-- One more, in new blocks. -/
theorem Hold.add (h : Hold W w ts) (hk : Keeps nobody w w') (ok : t.Ok) (inv : t.inv w') (hf : ∀ k, t.foot k → w.heap.size ≤ k) : Hold W w' (t :: ts) := by
  have h' := h.quiet hk
  refine ⟨h'.below, ?_, ?_, ?_, List.Pairwise.cons (fun s hs k e e2 => ?_) h.apart⟩
  · intro s hs
    rcases List.mem_cons.1 hs with rfl | hs
    · exact ok
    · exact h.ok s hs
  · intro s hs
    rcases List.mem_cons.1 hs with rfl | hs
    · exact inv
    · exact h'.inv s hs
  · intro s hs k e
    rcases List.mem_cons.1 hs with rfl | hs
    · exact Nat.le_trans h.below.size (hf k e)
    · exact h.new s hs k e
  · have h1 := hf k e
    have h2 := h.lt hs k e2
    omega
theorem Hold.tail (h : Hold W w (t :: ts)) : Hold W w ts :=
  ⟨h.below, fun s hs => h.ok s (List.mem_cons_of_mem _ hs), fun s hs => h.inv s (List.mem_cons_of_mem _ hs), fun s hs => h.new s (List.mem_cons_of_mem _ hs), (List.pairwise_cons.1 h.apart).2⟩
theorem Hold.sub (h : Hold W w ts) (hs : a.Sublist ts) : Hold W w a :=
  ⟨h.below, fun s hm => h.ok s (hs.mem hm), fun s hm => h.inv s (hs.mem hm), fun s hm => h.new s (hs.mem hm), h.apart.sublist hs⟩
/-- Something was done to one of them. -/
theorem Hold.act (h : Hold W w (a ++ t :: b)) (hd : Did t t' w w') : Hold W w' (a ++ t' :: b) := by
  have hp := List.pairwise_append.1 h.apart
  have hpc := List.pairwise_cons.1 hp.2.1
  have mt : t ∈ a ++ t :: b := by simp
  have ma : ∀ s ∈ a, s ∈ a ++ t :: b := fun s hs => by simp [hs]
  have mb : ∀ s ∈ b, s ∈ a ++ t :: b := fun s hs => by simp [hs]
  have ea : ∀ s ∈ a, ∀ k, s.foot k → ¬ t.foot k := fun s hs => hp.2.2 s hs t (by simp)
  have eb : ∀ s ∈ b, ∀ k, s.foot k → ¬ t.foot k := fun s hs k e e2 => hpc.1 s hs k e2 e
  have key : ∀ s, (s ∈ a ∨ s ∈ b) → ∀ k, s.foot k → ¬ t'.foot k := by
    intro s hs k e e2
    have hm : s ∈ a ++ t :: b := by rcases hs with hs | hs; exact ma s hs; exact mb s hs
    rcases hd.foot k e2 with e3 | e3
    · rcases hs with hs | hs
      · exact ea s hs k e e3
      · exact eb s hs k e e3
    · have := h.lt hm k e
      omega
  refine ⟨hd.keeps.below h.below (h.new t mt) h.below.size, ?_, ?_, ?_, ?_⟩
  · intro s hs
    rcases List.mem_append.1 hs with hs | hs
    · exact h.ok s (ma s hs)
    · rcases List.mem_cons.1 hs with rfl | hs
      · exact hd.ok
      · exact h.ok s (mb s hs)
  · intro s hs
    rcases List.mem_append.1 hs with hs | hs
    · exact (h.ok s (ma s hs)).keeps (h.inv s (ma s hs)) hd.keeps (ea s hs)
    · rcases List.mem_cons.1 hs with rfl | hs
      · exact hd.inv
      · exact (h.ok s (mb s hs)).keeps (h.inv s (mb s hs)) hd.keeps (eb s hs)
  · intro s hs k e
    rcases List.mem_append.1 hs with hs | hs
    · exact h.new s (ma s hs) k e
    · rcases List.mem_cons.1 hs with rfl | hs
      · rcases hd.foot k e with e | e
        · exact h.new t mt k e
        · exact Nat.le_trans h.below.size e
      · exact h.new s (mb s hs) k e
  · refine List.pairwise_append.2 ⟨hp.1, List.pairwise_cons.2 ⟨fun s hs k e e2 => key s (.inr hs) k e2 e, hpc.2⟩, fun s hs r hr => ?_⟩
    rcases List.mem_cons.1 hr with rfl | hr
    · exact key s (.inl hs)
    · exact hp.2.2 s hs r (List.mem_cons_of_mem _ hr)
theorem Hold.swap (h : Hold W w (t :: t' :: ts)) : Hold W w (t' :: t :: ts) := by
  have hp := List.pairwise_cons.1 h.apart
  have hq := List.pairwise_cons.1 hp.2
  refine ⟨h.below, fun s hs => h.ok s ?_, fun s hs => h.inv s ?_, fun s hs => h.new s ?_, List.pairwise_cons.2 ⟨fun s hs => ?_, List.pairwise_cons.2 ⟨fun s hs => hp.1 s (by simp [hs]), hq.2⟩⟩⟩
  · simp only [List.mem_cons] at hs ⊢
    rcases hs with h1 | h1 | h1
    · exact .inr (.inl h1)
    · exact .inl h1
    · exact .inr (.inr h1)
  · simp only [List.mem_cons] at hs ⊢
    rcases hs with h1 | h1 | h1
    · exact .inr (.inl h1)
    · exact .inl h1
    · exact .inr (.inr h1)
  · simp only [List.mem_cons] at hs ⊢
    rcases hs with h1 | h1 | h1
    · exact .inr (.inl h1)
    · exact .inl h1
    · exact .inr (.inr h1)
  · rcases List.mem_cons.1 hs with rfl | hs
    · exact fun k e e2 => hp.1 t' (by simp) k e2 e
    · exact hq.1 s hs
end
end Go.Proofs.Ytendndokgpppiaa
