/-
  Two things as one.
-/
import Derived.Test.YtendndokgpppiaaGSet
namespace Go.Proofs.Ytendndokgpppiaa
open Go.RowKit

/-- Two things, apart from each other, as one. -/
def two (t u : Thing) : Thing := ⟨fun k => t.foot k ∨ u.foot k, fun w => t.inv w ∧ u.inv w ∧ ∀ k, t.foot k → ¬ u.foot k⟩
section
variable {W w w' : World} {t t' u u' : Thing} {ts a b : List Thing}
theorem two_ok (ht : t.Ok) (hu : u.Ok) : (two t u).Ok :=
  ⟨fun {S w w'} h hk hS => ⟨ht.keeps h.1 hk fun k e => hS k (.inl e), hu.keeps h.2.1 hk fun k e => hS k (.inr e), h.2.2⟩,
   fun {w} h k hk => by
    rcases hk with hk | hk
    · exact ht.lt h.1 k hk
    · exact hu.lt h.2.1 k hk⟩
/-- Something was done to the first one. -/
theorem Did.fst (hd : Did t t' w w') (hu : u.Ok) (h : (two t u).inv w) : Did (two t u) (two t' u) w w' := by
  refine ⟨two_ok hd.ok hu, ⟨hd.inv, hu.keeps h.2.1 hd.keeps fun k e e2 => h.2.2 k e2 e, fun k e e2 => ?_⟩, hd.keeps.mono fun k _ e => .inl e, fun k e => ?_⟩
  · rcases hd.foot k e with e3 | e3
    · exact h.2.2 k e3 e2
    · have := hu.lt h.2.1 k e2
      omega
  · rcases e with e | e
    · rcases hd.foot k e with e | e
      · exact .inl (.inl e)
      · exact .inr e
    · exact .inl (.inr e)
/-- Something was done to the second one. -/
theorem Did.snd (hd : Did u u' w w') (ht : t.Ok) (h : (two t u).inv w) : Did (two t u) (two t u') w w' := by
  refine ⟨two_ok ht hd.ok, ⟨ht.keeps h.1 hd.keeps fun k e e2 => h.2.2 k e e2, hd.inv, fun k e e2 => ?_⟩, hd.keeps.mono fun k _ e => .inr e, fun k e => ?_⟩
  · rcases hd.foot k e2 with e3 | e3
    · exact h.2.2 k e e3
    · have := ht.lt h.1 k e
      omega
  · rcases e with e | e
    · exact .inl (.inl e)
    · rcases hd.foot k e with e | e
      · exact .inl (.inr e)
      · exact .inr e
theorem Hold.two (h : Hold W w (t :: u :: ts)) : Hold W w (two t u :: ts) := by
  have hp := List.pairwise_cons.1 h.apart
  have hq := List.pairwise_cons.1 hp.2
  refine ⟨h.below, fun s hs => ?_, fun s hs => ?_, fun s hs k e => ?_, List.pairwise_cons.2 ⟨fun s hs k e e2 => ?_, hq.2⟩⟩
  · rcases List.mem_cons.1 hs with rfl | hs
    · exact two_ok (h.ok _ (by simp)) (h.ok _ (by simp))
    · exact h.ok s (by simp [hs])
  · rcases List.mem_cons.1 hs with rfl | hs
    · exact ⟨h.inv _ (by simp), h.inv _ (by simp), hp.1 u (by simp)⟩
    · exact h.inv s (by simp [hs])
  · rcases List.mem_cons.1 hs with rfl | hs
    · rcases e with e | e
      · exact h.new t (by simp) k e
      · exact h.new u (by simp) k e
    · exact h.new s (by simp [hs]) k e
  · rcases e with e | e
    · exact hp.1 s (by simp [hs]) k e e2
    · exact hq.1 s hs k e e2
end
end Go.Proofs.Ytendndokgpppiaa
